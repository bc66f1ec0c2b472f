/-
  The law EditTouches walked over Do14: for every stack, upper layer and op it returns true and changes nothing that was there. Conditions: package edit answers as Do14 says; the stack and the layer lie in memory; errorType holds error's type.
-/
import Derived.Test.YtjliagcalbdnhaaGreatDoorS14Awake
import Derived.Test.YtjliagcalbdnhaaGreatDoorS14Near
import Derived.Test.YtjliagcalbdnhaaGreatDoorS12Few
import Derived.Test.YtjliagcalbdnhaaGreatDoorPc
import Derived.Test.YtjliagcalbdnhaaGreatDoorPh
import Derived.Deep.LoopGhost
namespace Go.Proofs.YtjliagcalbdnhaaGreatDoor
open Go.RowKit

theorem OpAt.below {w w' : World} {b : Nat} {o : Op11} (h : OpAt w b o) (hb : Below w.heap.size w w') : OpAt w' b o := (hb.block b (Array.getElem?_eq_some_iff.1 h).1).trans h
theorem OpAt.cells {w : World} {b : Nat} {d n : Int} {p q s : ByteArray} (h : OpAt w b (d, p, q, n, s)) : w.cell? ⟨b, 0, none⟩ = some (.int .i64 d) ∧ w.cell? ⟨b, 1, none⟩ = some (.string p) ∧ w.cell? ⟨b, 2, none⟩ = some (.string q) ∧ w.cell? ⟨b, 3, none⟩ = some (.int .i64 n) ∧ w.cell? ⟨b, 4, none⟩ = some (.string s) :=
  ⟨(opCell h (j := 0) rfl).1, (opCell h (j := 1) rfl).1, (opCell h (j := 2) rfl).1, (opCell h (j := 3) rfl).1, (opCell h (j := 4) rfl).1⟩
theorem en_box14 (w : World) (x : Ent) : ∃ V U M, w.alloc (.cells #[.string ⟨#[]⟩, .int .i64 0, .string ⟨#[]⟩] 46) = V ∧ w.heap.size = M ∧ enSet V M x.1 x.2.1 x.2.2 = U ∧ EnAt V M ⟨#[]⟩ 0 ⟨#[]⟩ ∧ EnAt U M x.1 x.2.1 x.2.2 ∧ Below w.heap.size w U := by
  refine ⟨_, _, _, rfl, rfl, rfl, enAt_new _ _ _ _, (enAt_new _ _ _ _).set _ _ _, below_en3 ((Below.refl _ _).alloc (Nat.le_refl _) _) (Nat.le_refl _) _ _ _⟩
theorem near_far {x p q : List UInt8} (h : nearB x p q = false) : far14 x p ∧ far14 x q := by
  unfold nearB at h
  simp only [Bool.or_eq_false_iff, beq_eq_false_iff_ne] at h
  exact ⟨⟨h.1.1.1.1.1, h.1.1.1.2, h.1.2⟩, h.1.1.1.1.2, h.1.1.2, h.2⟩
theorem fdV_in {l : List Ent} (h : RightL l) {x : Ent} (hx : x ∈ l) : fdV l (pl x) = (x, true) := by
  unfold fdV
  rw [if_pos h, (fnd_some h.2.2.1).2 ⟨hx, rfl⟩]
attribute [local go_sem ↓] old_ldi old_lds old_lde3 old_eqen old_neen
attribute [local go_sem] oldC_forall isC1_ptr isS1_ptr c1V_ptr isE3_ptr e3V_ptr isEv_agg evEq_agg eta_ent
set_option maxRecDepth 10000 in
set_option maxHeartbeats 32000000 in
theorem lawTouch14 (LD : Do14) (S : List (List Ent)) (a : Option Addr) (cap : Nat) (u : List Ent) (a2 : Option Addr) (cap2 : Nat) (o : Op11) (W : World) (hg : EtLaid W) (hk : Stk W a cap S) (hu : Ents W a2 cap2 u) (ho : opOK o) :
    Calls Tryz.prog 5 #[.slice a S.length cap, .slice a2 u.length cap2, opV o] W fun e w' => e = .returned (.bool true) ∧ Below W.heap.size W w' := by
  obtain ⟨d, p, q, n, s⟩ := o
  have HOK := Lib.hid ho
  obtain ⟨V, hV⟩ : ∃ V, W.alloc (.cells #[.int .i64 d, .string p, .string q, .int .i64 n, .string s] 32) = V := ⟨_, rfl⟩
  obtain ⟨M, hM⟩ : ∃ M, W.heap.size = M := ⟨_, rfl⟩
  have hb : Below W.heap.size W V := by rw [← hV]; exact (Below.refl _ _).alloc (Nat.le_refl _) _
  have HOB := Lib.hid (show OpAt V M (d, p, q, n, s) by rw [← hV, ← hM]; exact opAt_new W (d, p, q, n, s))
  have HSW := Lib.hid (st_self hg)
  have HS0 := Lib.hid (HSW.out.next hb)
  have HK := Lib.hid (hk.below hb)
  have HEU := Lib.hid (RowN.below hu hb)
  clear hg hk hu ho hb HSW
  obtain ⟨o0, o1, o2, o3, o4⟩ := HOB.out.cells
  by_cases hf : FewOK S
  · have hF1 : (if FewOK S then (1 : Int) else 0) = 1 := if_pos hf
    have HSS := Lib.hid (few_sm12 hf)
    clear hf
    by_cases hz : SizeOK u
    · have hF2 : (if SizeOK u then (1 : Int) else 0) = 1 := if_pos hz
      have HSU := Lib.hid (sm_size hz)
      clear hz
      by_cases hfo : FewO (d, p, q, n, s)
      · have hF3 : (if FewO (d, p, q, n, s) then (1 : Int) else 0) = 1 := if_pos hfo
        have HF := Lib.hid hfo
        clear hfo
        go_enter Tryz.func5, Tryz.ntmps5
        go_wp2_with fail
        refine (awake14 LD _ HS0.out.et).mono ?_
        rintro e w1 ⟨rfl, hb⟩
        have HS1 := Lib.hid (HS0.out.next hb)
        replace HK := Lib.hid (HK.out.below hb)
        replace HEU := Lib.hid (RowN.below HEU.out hb)
        replace HOB := Lib.hid (HOB.out.below hb)
        clear hb
        clear o0 o1 o2 o3 o4
        obtain ⟨o0, o1, o2, o3, o4⟩ := HOB.out.cells
        go_wp2_with fail
        refine (few10 S a cap _ HK.out).mono ?_
        rintro e w9 ⟨rfl, rfl⟩
        rw [hF1]
        go_wp2_with fail
        refine (size9 u a2 cap2 _ HEU.out).mono ?_
        rintro e w9 ⟨rfl, rfl⟩
        rw [hF2]
        go_wp2_with fail
        refine (few11 (d, p, q, n, s) _).mono ?_
        rintro e w2 ⟨rfl, hb⟩
        have HS2 := Lib.hid (HS1.out.next hb)
        replace HK := Lib.hid (HK.out.below hb)
        replace HEU := Lib.hid (RowN.below HEU.out hb)
        replace HOB := Lib.hid (HOB.out.below hb)
        clear hb
        clear o0 o1 o2 o3 o4
        obtain ⟨o0, o1, o2, o3, o4⟩ := HOB.out.cells
        rw [hF3]
        go_wp2_with fail
        refine (of14 (d, p, q, n, s) _).mono ?_
        rintro e w3 ⟨rfl, hb⟩
        have HS3 := Lib.hid (HS2.out.next hb)
        replace HK := Lib.hid (HK.out.below hb)
        replace HEU := Lib.hid (RowN.below HEU.out hb)
        replace HOB := Lib.hid (HOB.out.below hb)
        clear hb
        clear o0 o1 o2 o3 o4
        obtain ⟨o0, o1, o2, o3, o4⟩ := HOB.out.cells
        obtain ⟨res, hres⟩ : ∃ res, edV S u (d, p, q, n, s) = res := ⟨_, rfl⟩
        have HRS := Lib.hid hres
        have HZX := Lib.hid (fun (h : (edV S u (d, p, q, n, s)).1 ≠ 0) => ed_err h)
        have HZO := Lib.hid (fun (h : (edV S u (d, p, q, n, s)).1 = 0) => ed_zero h)
        have HTO := Lib.hid (fun (h : (edV S u (d, p, q, n, s)).1 = 0) (x : Ent) h1 h2 => ed_touch h (x := x) h1 h2)
        rw [hres] at HZX HZO HTO
        clear hres
        obtain ⟨n1, X⟩ := res
        replace HZX : Hid (n1 ≠ 0 → X = []) := HZX
        replace HZO : Hid (n1 = 0 → RightL u ∧ RightL X) := fun h => by
          obtain ⟨_, h2, _, h4, h5⟩ := HZO.out h
          refine ⟨(ok_low h2).2.1, ?_⟩
          rw [show X = up14 (stk S) u (d, p, q, n, s) from h4]
          exact h5
        replace HTO : Hid (n1 = 0 → ∀ x : Ent, far14 (pl x) p.data.toList → (d = 6 → far14 (pl x) q.data.toList) → (x ∈ X ↔ x ∈ u)) := HTO
        go_wp2_with fail
        refine (LD S a cap u a2 cap2 (d, p, q, n, s) _ HS3.out.et HK.out HEU.out HSS.out.1 HSS.out.2 HSU.out HF.out HOK.out).mono ?_
        rw [HRS.out]
        rintro e w4 ⟨a7, c7, er, rfl, h9, e9, hb⟩
        have HS4 := Lib.hid (HS3.out.next hb)
        replace HK := Lib.hid (HK.out.below hb)
        replace HEU := Lib.hid (RowN.below HEU.out hb)
        replace HOB := Lib.hid (HOB.out.below hb)
        have HEX := Lib.hid h9
        have HER := Lib.hid e9
        clear h9 e9
        clear hb
        clear o0 o1 o2 o3 o4
        obtain ⟨o0, o1, o2, o3, o4⟩ := HOB.out.cells
        go_wp2_with fail
        refine (code_er _ _ _ HER.out HS4.out.et).mono ?_
        rintro e w5 ⟨rfl, hb⟩
        have HS5 := Lib.hid (HS4.out.next hb)
        replace HK := Lib.hid (HK.out.below hb)
        replace HEU := Lib.hid (RowN.below HEU.out hb)
        replace HOB := Lib.hid (HOB.out.below hb)
        replace HEX := Lib.hid (RowN.below HEX.out hb)
        replace HER := Lib.hid (HER.out.below hb)
        clear hb
        clear o0 o1 o2 o3 o4
        obtain ⟨o0, o1, o2, o3, o4⟩ := HOB.out.cells
        by_cases hn : n1 = 0
        · subst hn
          have HRR := Lib.hid (HZO.out rfl)
          have HTT := Lib.hid (HTO.out rfl)
          have HLL := Lib.hid (show u.length ≤ 64 ∧ X.length ≤ 64 from ⟨HRR.out.1.1, HRR.out.2.1⟩)
          have HSX := Lib.hid HS5.out
          clear HZX HZO HTO HRS
          by_cases h6 : d = 6
          · subst h6
            have HT6 := Lib.hid (fun (x : Ent) (h : nearB (pl x) p.data.toList q.data.toList = false) => HTT.out x (near_far h).1 fun _ => (near_far h).2)
            have HPS := Lib.hid (show p.size ≤ 100000 ∧ q.size ≤ 100000 from ⟨by have := HF.out.1; simp only at this; omega, by have := HF.out.2.1; simp only at this; omega⟩)
            clear HTT
            go_wp2
            go_loopg [10] u.length (fun g i wx => ∃ k : Nat, i = .int .i64 (k : Int) ∧ k + g = u.length ∧ Hid (Ents wx a2 cap2 u) ∧ Hid (Ents wx a7 c7 X) ∧ Hid (OpAt wx M (6, p, q, n, s)) ∧ Hid (St W wx))
            case atStart => exact ⟨0, rfl, by omega, HEU.out, HEX.out, HOB.out, HSX.out⟩
            case round =>
              clear HEU HEX HOB HSX
              obtain ⟨k, rfl, hk, HEU, HEX, HOB, HS0⟩ := hrel
              have hw : IntKind.i64.wrap ((k : Int) + 1) = (k : Int) + 1 := IntWalk.i64_in _ (by have := HLL.out.1; omega)
              by_cases hlt : k < u.length
              · have hlt' : (k : Int) < (u.length : Int) := by omega
                obtain ⟨b, off, e9, _, hc⟩ := Ents.at HEU.out (Below.refl _ _) hlt
                subst e9
                have HMM := Lib.hid (List.getElem_mem hlt)
                obtain ⟨x, hx⟩ : ∃ x, u[k] = x := ⟨_, rfl⟩
                have HXK := Lib.hid hx
                rw [hx] at hc HMM
                clear hx
                have HXS := Lib.hid (show x.1.size ≤ 100000 by
                  have h54 := isP_len (rE_isP (HRR.out.1.2.1 _ HMM.out)).1
                  rw [← Lib.size_eq] at h54
                  omega)
                have c0 := hc.c0
                clear hc
                obtain ⟨y, hy⟩ : ∃ y, fdV X x.1.data.toList = y := ⟨_, rfl⟩
                have HFD := Lib.hid (find9 X a7 c7 x.1 wr HEX.out (sm_right14 HRR.out.2))
                rw [hy] at HFD
                cases hnb : nearB x.1.data.toList p.data.toList q.data.toList with
                | true =>
                  have HNB := Lib.hid hnb
                  clear hnb hy
                  obtain ⟨y, ok⟩ := y
                  go_wp2_with fail
                  refine (HFD.out).mono ?_
                  rintro e wa ⟨rfl, hb⟩
                  have HSa := Lib.hid (HS0.out.next hb)
                  have HELa := Lib.hid (RowN.below HEU.out hb)
                  have HERa := Lib.hid (RowN.below HEX.out hb)
                  have HOBa := Lib.hid (HOB.out.below hb)
                  clear hb c0
                  obtain ⟨Vf, wb, Mf, hVf, hMf, hUf, hv, hu, hb⟩ := en_box14 wa y
                  have v0 := hv.c0
                  have v1 := hv.c1
                  have v2 := hv.c2
                  have vf0 := hv.f0
                  have vf1 := hv.f1
                  have vf2 := hv.f2
                  have Hf := Lib.hid hu
                  have HSb := Lib.hid (HSa.out.next hb)
                  have HELb := Lib.hid (RowN.below HELa.out hb)
                  have HERb := Lib.hid (RowN.below HERa.out hb)
                  have HOBb := Lib.hid (HOBa.out.below hb)
                  clear hv hu hb
                  go_wp2_with fail
                  clear v0 v1 v2 vf0 vf1 vf2 hVf hMf hUf
                  obtain ⟨b', off', e9, _, hc⟩ := Ents.at HELb.out (Below.refl _ _) hlt
                  cases e9
                  rw [HXK.out] at hc
                  have c0 := hc.c0
                  have c1 := hc.c1
                  have c2 := hc.c2
                  have q0 := Hf.out.c0
                  have q1 := Hf.out.c1
                  have q2 := Hf.out.c2
                  obtain ⟨o0, o1, o2, o3, o4⟩ := HOBb.out.cells
                  have H1 : Hid (∀ w', OldC wb w' → Calls Tryz.prog 21 #[.string x.1, .string p, .string q] w' fun r w'' => r = .returned (.bool true) ∧ OldC wb w'') := fun w' hw' => by
                    refine (near14 x.1 p q HXS.out HPS.out.1 HPS.out.2 w').mono ?_
                    rintro r w'' ⟨rfl, hb⟩
                    exact ⟨by rw [HNB.out], hw'.then hb⟩
                  clear hc
                  refine wp_region_old (by kernel_rfl) (by kernel_rfl) ?_
                  repeat (go_big_quiet_step ((first | (intro hw; with_reducible exact H1.out _ hw))))
                  refine wpQuiet_nil ?_
                  intro wd hw9
                  have HSd := Lib.hid (HSb.out.next hw9)
                  have HELd := Lib.hid (RowN.below HELb.out hw9)
                  have HERd := Lib.hid (RowN.below HERb.out hw9)
                  have HOBd := Lib.hid (HOBb.out.below hw9)
                  clear hw9
                  go_wp2
                  go_roundg (gk - 1)
                  case measure => omega
                  case rel => exact ⟨k + 1, by simp, by omega, HELd.out, HERd.out, HOBd.out, HSd.out⟩
                | false =>
                  have HNB := Lib.hid hnb
                  have hin := fdV_in HRR.out.2 ((HT6.out x hnb).2 HMM.out)
                  obtain rfl : y = (x, true) := hy.symm.trans hin
                  clear hnb hin hy
                  go_wp2_with fail
                  refine (HFD.out).mono ?_
                  rintro e wa ⟨rfl, hb⟩
                  have HSa := Lib.hid (HS0.out.next hb)
                  have HELa := Lib.hid (RowN.below HEU.out hb)
                  have HERa := Lib.hid (RowN.below HEX.out hb)
                  have HOBa := Lib.hid (HOB.out.below hb)
                  clear hb c0
                  obtain ⟨Vf, wb, Mf, hVf, hMf, hUf, hv, hu, hb⟩ := en_box14 wa x
                  have v0 := hv.c0
                  have v1 := hv.c1
                  have v2 := hv.c2
                  have vf0 := hv.f0
                  have vf1 := hv.f1
                  have vf2 := hv.f2
                  have Hf := Lib.hid hu
                  have HSb := Lib.hid (HSa.out.next hb)
                  have HELb := Lib.hid (RowN.below HELa.out hb)
                  have HERb := Lib.hid (RowN.below HERa.out hb)
                  have HOBb := Lib.hid (HOBa.out.below hb)
                  clear hv hu hb
                  go_wp2_with fail
                  clear v0 v1 v2 vf0 vf1 vf2 hVf hMf hUf
                  obtain ⟨b', off', e9, _, hc⟩ := Ents.at HELb.out (Below.refl _ _) hlt
                  cases e9
                  rw [HXK.out] at hc
                  have c0 := hc.c0
                  have c1 := hc.c1
                  have c2 := hc.c2
                  have q0 := Hf.out.c0
                  have q1 := Hf.out.c1
                  have q2 := Hf.out.c2
                  obtain ⟨o0, o1, o2, o3, o4⟩ := HOBb.out.cells
                  have H1 : Hid (∀ w', OldC wb w' → Calls Tryz.prog 21 #[.string x.1, .string p, .string q] w' fun r w'' => r = .returned (.bool false) ∧ OldC wb w'') := fun w' hw' => by
                    refine (near14 x.1 p q HXS.out HPS.out.1 HPS.out.2 w').mono ?_
                    rintro r w'' ⟨rfl, hb⟩
                    exact ⟨by rw [HNB.out], hw'.then hb⟩
                  clear hc
                  refine wp_region_old (by kernel_rfl) (by kernel_rfl) ?_
                  repeat (go_big_quiet_step ((first | (intro hw; with_reducible exact H1.out _ hw))))
                  refine wpQuiet_nil ?_
                  intro wd hw9
                  have HSd := Lib.hid (HSb.out.next hw9)
                  have HELd := Lib.hid (RowN.below HELb.out hw9)
                  have HERd := Lib.hid (RowN.below HERb.out hw9)
                  have HOBd := Lib.hid (HOBb.out.below hw9)
                  clear hw9
                  go_wp2
                  go_roundg (gk - 1)
                  case measure => omega
                  case rel => exact ⟨k + 1, by simp, by omega, HELd.out, HERd.out, HOBd.out, HSd.out⟩
              · have hlt' : ¬ (k : Int) < (u.length : Int) := by omega
                have HSX := Lib.hid HS0.out
                clear hlt hw
                go_wp2
                go_loopg [13] X.length (fun g i wx => ∃ k : Nat, i = .int .i64 (k : Int) ∧ k + g = X.length ∧ Hid (Ents wx a7 c7 X) ∧ Hid (Ents wx a2 cap2 u) ∧ Hid (OpAt wx M (6, p, q, n, s)) ∧ Hid (St W wx))
                case atStart => exact ⟨0, rfl, by omega, HEX.out, HEU.out, HOB.out, HSX.out⟩
                case round =>
                  clear HEU HEX HOB HSX
                  obtain ⟨k, rfl, hk, HEX, HEU, HOB, HS0⟩ := hrel
                  have hw : IntKind.i64.wrap ((k : Int) + 1) = (k : Int) + 1 := IntWalk.i64_in _ (by have := HLL.out.2; omega)
                  by_cases hlt : k < X.length
                  · have hlt' : (k : Int) < (X.length : Int) := by omega
                    obtain ⟨b, off, e9, _, hc⟩ := Ents.at HEX.out (Below.refl _ _) hlt
                    subst e9
                    have HMM := Lib.hid (List.getElem_mem hlt)
                    obtain ⟨x, hx⟩ : ∃ x, X[k] = x := ⟨_, rfl⟩
                    have HXK := Lib.hid hx
                    rw [hx] at hc HMM
                    clear hx
                    have HXS := Lib.hid (show x.1.size ≤ 100000 by
                      have h54 := isP_len (rE_isP (HRR.out.2.2.1 _ HMM.out)).1
                      rw [← Lib.size_eq] at h54
                      omega)
                    have c0 := hc.c0
                    clear hc
                    obtain ⟨y, hy⟩ : ∃ y, fdV u x.1.data.toList = y := ⟨_, rfl⟩
                    have HFD := Lib.hid (find9 u a2 cap2 x.1 wr HEU.out (sm_right14 HRR.out.1))
                    rw [hy] at HFD
                    cases hnb : nearB x.1.data.toList p.data.toList q.data.toList with
                    | true =>
                      have HNB := Lib.hid hnb
                      clear hnb hy
                      obtain ⟨y, ok⟩ := y
                      go_wp2_with fail
                      refine (HFD.out).mono ?_
                      rintro e wa ⟨rfl, hb⟩
                      have HSa := Lib.hid (HS0.out.next hb)
                      have HELa := Lib.hid (RowN.below HEX.out hb)
                      have HERa := Lib.hid (RowN.below HEU.out hb)
                      have HOBa := Lib.hid (HOB.out.below hb)
                      clear hb c0
                      obtain ⟨Vf, wb, Mf, hVf, hMf, hUf, hv, hu, hb⟩ := en_box14 wa y
                      have v0 := hv.c0
                      have v1 := hv.c1
                      have v2 := hv.c2
                      have vf0 := hv.f0
                      have vf1 := hv.f1
                      have vf2 := hv.f2
                      have Hf := Lib.hid hu
                      have HSb := Lib.hid (HSa.out.next hb)
                      have HELb := Lib.hid (RowN.below HELa.out hb)
                      have HERb := Lib.hid (RowN.below HERa.out hb)
                      have HOBb := Lib.hid (HOBa.out.below hb)
                      clear hv hu hb
                      go_wp2_with fail
                      clear v0 v1 v2 vf0 vf1 vf2 hVf hMf hUf
                      obtain ⟨b', off', e9, _, hc⟩ := Ents.at HELb.out (Below.refl _ _) hlt
                      cases e9
                      rw [HXK.out] at hc
                      have c0 := hc.c0
                      have c1 := hc.c1
                      have c2 := hc.c2
                      have q0 := Hf.out.c0
                      have q1 := Hf.out.c1
                      have q2 := Hf.out.c2
                      obtain ⟨o0, o1, o2, o3, o4⟩ := HOBb.out.cells
                      have H1 : Hid (∀ w', OldC wb w' → Calls Tryz.prog 21 #[.string x.1, .string p, .string q] w' fun r w'' => r = .returned (.bool true) ∧ OldC wb w'') := fun w' hw' => by
                        refine (near14 x.1 p q HXS.out HPS.out.1 HPS.out.2 w').mono ?_
                        rintro r w'' ⟨rfl, hb⟩
                        exact ⟨by rw [HNB.out], hw'.then hb⟩
                      clear hc
                      refine wp_region_old (by kernel_rfl) (by kernel_rfl) ?_
                      repeat (go_big_quiet_step ((first | (intro hw; with_reducible exact H1.out _ hw))))
                      refine wpQuiet_nil ?_
                      intro wd hw9
                      have HSd := Lib.hid (HSb.out.next hw9)
                      have HELd := Lib.hid (RowN.below HELb.out hw9)
                      have HERd := Lib.hid (RowN.below HERb.out hw9)
                      have HOBd := Lib.hid (HOBb.out.below hw9)
                      clear hw9
                      go_wp2
                      go_roundg (gk - 1)
                      case measure => omega
                      case rel => exact ⟨k + 1, by simp, by omega, HELd.out, HERd.out, HOBd.out, HSd.out⟩
                    | false =>
                      have HNB := Lib.hid hnb
                      have hin := fdV_in HRR.out.1 ((HT6.out x hnb).1 HMM.out)
                      obtain rfl : y = (x, true) := hy.symm.trans hin
                      clear hnb hin hy
                      go_wp2_with fail
                      refine (HFD.out).mono ?_
                      rintro e wa ⟨rfl, hb⟩
                      have HSa := Lib.hid (HS0.out.next hb)
                      have HELa := Lib.hid (RowN.below HEX.out hb)
                      have HERa := Lib.hid (RowN.below HEU.out hb)
                      have HOBa := Lib.hid (HOB.out.below hb)
                      clear hb c0
                      obtain ⟨Vf, wb, Mf, hVf, hMf, hUf, hv, hu, hb⟩ := en_box14 wa x
                      have v0 := hv.c0
                      have v1 := hv.c1
                      have v2 := hv.c2
                      have vf0 := hv.f0
                      have vf1 := hv.f1
                      have vf2 := hv.f2
                      have Hf := Lib.hid hu
                      have HSb := Lib.hid (HSa.out.next hb)
                      have HELb := Lib.hid (RowN.below HELa.out hb)
                      have HERb := Lib.hid (RowN.below HERa.out hb)
                      have HOBb := Lib.hid (HOBa.out.below hb)
                      clear hv hu hb
                      go_wp2_with fail
                      clear v0 v1 v2 vf0 vf1 vf2 hVf hMf hUf
                      obtain ⟨b', off', e9, _, hc⟩ := Ents.at HELb.out (Below.refl _ _) hlt
                      cases e9
                      rw [HXK.out] at hc
                      have c0 := hc.c0
                      have c1 := hc.c1
                      have c2 := hc.c2
                      have q0 := Hf.out.c0
                      have q1 := Hf.out.c1
                      have q2 := Hf.out.c2
                      obtain ⟨o0, o1, o2, o3, o4⟩ := HOBb.out.cells
                      have H1 : Hid (∀ w', OldC wb w' → Calls Tryz.prog 21 #[.string x.1, .string p, .string q] w' fun r w'' => r = .returned (.bool false) ∧ OldC wb w'') := fun w' hw' => by
                        refine (near14 x.1 p q HXS.out HPS.out.1 HPS.out.2 w').mono ?_
                        rintro r w'' ⟨rfl, hb⟩
                        exact ⟨by rw [HNB.out], hw'.then hb⟩
                      clear hc
                      refine wp_region_old (by kernel_rfl) (by kernel_rfl) ?_
                      repeat (go_big_quiet_step ((first | (intro hw; with_reducible exact H1.out _ hw))))
                      refine wpQuiet_nil ?_
                      intro wd hw9
                      have HSd := Lib.hid (HSb.out.next hw9)
                      have HELd := Lib.hid (RowN.below HELb.out hw9)
                      have HERd := Lib.hid (RowN.below HERb.out hw9)
                      have HOBd := Lib.hid (HOBb.out.below hw9)
                      clear hw9
                      go_wp2
                      go_roundg (gk - 1)
                      case measure => omega
                      case rel => exact ⟨k + 1, by simp, by omega, HELd.out, HERd.out, HOBd.out, HSd.out⟩
                  · have hlt' : ¬ (k : Int) < (X.length : Int) := by omega
                    go_wp2
                    go_ret
                    exact ⟨by first | rfl | simp, by first | exact HS0.out.below | (rw [← hM]; exact HS0.out.below)⟩
          · have g6 : ((d : Int) == 6) = false := beq_eq_false_iff_ne.2 h6
            have HT6 := Lib.hid (fun (x : Ent) (h : nearB (pl x) p.data.toList p.data.toList = false) => HTT.out x (near_far h).1 fun h9 => absurd h9 h6)
            have HPS := Lib.hid (show p.size ≤ 100000 ∧ p.size ≤ 100000 from ⟨by have := HF.out.1; simp only at this; omega, by have := HF.out.1; simp only at this; omega⟩)
            clear HTT h6
            go_wp2
            go_loopg [10] u.length (fun g i wx => ∃ k : Nat, i = .int .i64 (k : Int) ∧ k + g = u.length ∧ Hid (Ents wx a2 cap2 u) ∧ Hid (Ents wx a7 c7 X) ∧ Hid (OpAt wx M (d, p, q, n, s)) ∧ Hid (St W wx))
            case atStart => exact ⟨0, rfl, by omega, HEU.out, HEX.out, HOB.out, HSX.out⟩
            case round =>
              clear HEU HEX HOB HSX
              obtain ⟨k, rfl, hk, HEU, HEX, HOB, HS0⟩ := hrel
              have hw : IntKind.i64.wrap ((k : Int) + 1) = (k : Int) + 1 := IntWalk.i64_in _ (by have := HLL.out.1; omega)
              by_cases hlt : k < u.length
              · have hlt' : (k : Int) < (u.length : Int) := by omega
                obtain ⟨b, off, e9, _, hc⟩ := Ents.at HEU.out (Below.refl _ _) hlt
                subst e9
                have HMM := Lib.hid (List.getElem_mem hlt)
                obtain ⟨x, hx⟩ : ∃ x, u[k] = x := ⟨_, rfl⟩
                have HXK := Lib.hid hx
                rw [hx] at hc HMM
                clear hx
                have HXS := Lib.hid (show x.1.size ≤ 100000 by
                  have h54 := isP_len (rE_isP (HRR.out.1.2.1 _ HMM.out)).1
                  rw [← Lib.size_eq] at h54
                  omega)
                have c0 := hc.c0
                clear hc
                obtain ⟨y, hy⟩ : ∃ y, fdV X x.1.data.toList = y := ⟨_, rfl⟩
                have HFD := Lib.hid (find9 X a7 c7 x.1 wr HEX.out (sm_right14 HRR.out.2))
                rw [hy] at HFD
                cases hnb : nearB x.1.data.toList p.data.toList p.data.toList with
                | true =>
                  have HNB := Lib.hid hnb
                  clear hnb hy
                  obtain ⟨y, ok⟩ := y
                  go_wp2_with fail
                  refine (HFD.out).mono ?_
                  rintro e wa ⟨rfl, hb⟩
                  have HSa := Lib.hid (HS0.out.next hb)
                  have HELa := Lib.hid (RowN.below HEU.out hb)
                  have HERa := Lib.hid (RowN.below HEX.out hb)
                  have HOBa := Lib.hid (HOB.out.below hb)
                  clear hb c0
                  obtain ⟨Vf, wb, Mf, hVf, hMf, hUf, hv, hu, hb⟩ := en_box14 wa y
                  have v0 := hv.c0
                  have v1 := hv.c1
                  have v2 := hv.c2
                  have vf0 := hv.f0
                  have vf1 := hv.f1
                  have vf2 := hv.f2
                  have Hf := Lib.hid hu
                  have HSb := Lib.hid (HSa.out.next hb)
                  have HELb := Lib.hid (RowN.below HELa.out hb)
                  have HERb := Lib.hid (RowN.below HERa.out hb)
                  have HOBb := Lib.hid (HOBa.out.below hb)
                  clear hv hu hb
                  go_wp2_with fail
                  clear v0 v1 v2 vf0 vf1 vf2 hVf hMf hUf
                  obtain ⟨b', off', e9, _, hc⟩ := Ents.at HELb.out (Below.refl _ _) hlt
                  cases e9
                  rw [HXK.out] at hc
                  have c0 := hc.c0
                  have c1 := hc.c1
                  have c2 := hc.c2
                  have q0 := Hf.out.c0
                  have q1 := Hf.out.c1
                  have q2 := Hf.out.c2
                  obtain ⟨o0, o1, o2, o3, o4⟩ := HOBb.out.cells
                  have H1 : Hid (∀ w', OldC wb w' → Calls Tryz.prog 21 #[.string x.1, .string p, .string p] w' fun r w'' => r = .returned (.bool true) ∧ OldC wb w'') := fun w' hw' => by
                    refine (near14 x.1 p p HXS.out HPS.out.1 HPS.out.2 w').mono ?_
                    rintro r w'' ⟨rfl, hb⟩
                    exact ⟨by rw [HNB.out], hw'.then hb⟩
                  clear hc
                  refine wp_region_old (by kernel_rfl) (by kernel_rfl) ?_
                  repeat (go_big_quiet_step ((first | (intro hw; with_reducible exact H1.out _ hw))))
                  refine wpQuiet_nil ?_
                  intro wd hw9
                  have HSd := Lib.hid (HSb.out.next hw9)
                  have HELd := Lib.hid (RowN.below HELb.out hw9)
                  have HERd := Lib.hid (RowN.below HERb.out hw9)
                  have HOBd := Lib.hid (HOBb.out.below hw9)
                  clear hw9
                  go_wp2
                  go_roundg (gk - 1)
                  case measure => omega
                  case rel => exact ⟨k + 1, by simp, by omega, HELd.out, HERd.out, HOBd.out, HSd.out⟩
                | false =>
                  have HNB := Lib.hid hnb
                  have hin := fdV_in HRR.out.2 ((HT6.out x hnb).2 HMM.out)
                  obtain rfl : y = (x, true) := hy.symm.trans hin
                  clear hnb hin hy
                  go_wp2_with fail
                  refine (HFD.out).mono ?_
                  rintro e wa ⟨rfl, hb⟩
                  have HSa := Lib.hid (HS0.out.next hb)
                  have HELa := Lib.hid (RowN.below HEU.out hb)
                  have HERa := Lib.hid (RowN.below HEX.out hb)
                  have HOBa := Lib.hid (HOB.out.below hb)
                  clear hb c0
                  obtain ⟨Vf, wb, Mf, hVf, hMf, hUf, hv, hu, hb⟩ := en_box14 wa x
                  have v0 := hv.c0
                  have v1 := hv.c1
                  have v2 := hv.c2
                  have vf0 := hv.f0
                  have vf1 := hv.f1
                  have vf2 := hv.f2
                  have Hf := Lib.hid hu
                  have HSb := Lib.hid (HSa.out.next hb)
                  have HELb := Lib.hid (RowN.below HELa.out hb)
                  have HERb := Lib.hid (RowN.below HERa.out hb)
                  have HOBb := Lib.hid (HOBa.out.below hb)
                  clear hv hu hb
                  go_wp2_with fail
                  clear v0 v1 v2 vf0 vf1 vf2 hVf hMf hUf
                  obtain ⟨b', off', e9, _, hc⟩ := Ents.at HELb.out (Below.refl _ _) hlt
                  cases e9
                  rw [HXK.out] at hc
                  have c0 := hc.c0
                  have c1 := hc.c1
                  have c2 := hc.c2
                  have q0 := Hf.out.c0
                  have q1 := Hf.out.c1
                  have q2 := Hf.out.c2
                  obtain ⟨o0, o1, o2, o3, o4⟩ := HOBb.out.cells
                  have H1 : Hid (∀ w', OldC wb w' → Calls Tryz.prog 21 #[.string x.1, .string p, .string p] w' fun r w'' => r = .returned (.bool false) ∧ OldC wb w'') := fun w' hw' => by
                    refine (near14 x.1 p p HXS.out HPS.out.1 HPS.out.2 w').mono ?_
                    rintro r w'' ⟨rfl, hb⟩
                    exact ⟨by rw [HNB.out], hw'.then hb⟩
                  clear hc
                  refine wp_region_old (by kernel_rfl) (by kernel_rfl) ?_
                  repeat (go_big_quiet_step ((first | (intro hw; with_reducible exact H1.out _ hw))))
                  refine wpQuiet_nil ?_
                  intro wd hw9
                  have HSd := Lib.hid (HSb.out.next hw9)
                  have HELd := Lib.hid (RowN.below HELb.out hw9)
                  have HERd := Lib.hid (RowN.below HERb.out hw9)
                  have HOBd := Lib.hid (HOBb.out.below hw9)
                  clear hw9
                  go_wp2
                  go_roundg (gk - 1)
                  case measure => omega
                  case rel => exact ⟨k + 1, by simp, by omega, HELd.out, HERd.out, HOBd.out, HSd.out⟩
              · have hlt' : ¬ (k : Int) < (u.length : Int) := by omega
                have HSX := Lib.hid HS0.out
                clear hlt hw
                go_wp2
                go_loopg [13] X.length (fun g i wx => ∃ k : Nat, i = .int .i64 (k : Int) ∧ k + g = X.length ∧ Hid (Ents wx a7 c7 X) ∧ Hid (Ents wx a2 cap2 u) ∧ Hid (OpAt wx M (d, p, q, n, s)) ∧ Hid (St W wx))
                case atStart => exact ⟨0, rfl, by omega, HEX.out, HEU.out, HOB.out, HSX.out⟩
                case round =>
                  clear HEU HEX HOB HSX
                  obtain ⟨k, rfl, hk, HEX, HEU, HOB, HS0⟩ := hrel
                  have hw : IntKind.i64.wrap ((k : Int) + 1) = (k : Int) + 1 := IntWalk.i64_in _ (by have := HLL.out.2; omega)
                  by_cases hlt : k < X.length
                  · have hlt' : (k : Int) < (X.length : Int) := by omega
                    obtain ⟨b, off, e9, _, hc⟩ := Ents.at HEX.out (Below.refl _ _) hlt
                    subst e9
                    have HMM := Lib.hid (List.getElem_mem hlt)
                    obtain ⟨x, hx⟩ : ∃ x, X[k] = x := ⟨_, rfl⟩
                    have HXK := Lib.hid hx
                    rw [hx] at hc HMM
                    clear hx
                    have HXS := Lib.hid (show x.1.size ≤ 100000 by
                      have h54 := isP_len (rE_isP (HRR.out.2.2.1 _ HMM.out)).1
                      rw [← Lib.size_eq] at h54
                      omega)
                    have c0 := hc.c0
                    clear hc
                    obtain ⟨y, hy⟩ : ∃ y, fdV u x.1.data.toList = y := ⟨_, rfl⟩
                    have HFD := Lib.hid (find9 u a2 cap2 x.1 wr HEU.out (sm_right14 HRR.out.1))
                    rw [hy] at HFD
                    cases hnb : nearB x.1.data.toList p.data.toList p.data.toList with
                    | true =>
                      have HNB := Lib.hid hnb
                      clear hnb hy
                      obtain ⟨y, ok⟩ := y
                      go_wp2_with fail
                      refine (HFD.out).mono ?_
                      rintro e wa ⟨rfl, hb⟩
                      have HSa := Lib.hid (HS0.out.next hb)
                      have HELa := Lib.hid (RowN.below HEX.out hb)
                      have HERa := Lib.hid (RowN.below HEU.out hb)
                      have HOBa := Lib.hid (HOB.out.below hb)
                      clear hb c0
                      obtain ⟨Vf, wb, Mf, hVf, hMf, hUf, hv, hu, hb⟩ := en_box14 wa y
                      have v0 := hv.c0
                      have v1 := hv.c1
                      have v2 := hv.c2
                      have vf0 := hv.f0
                      have vf1 := hv.f1
                      have vf2 := hv.f2
                      have Hf := Lib.hid hu
                      have HSb := Lib.hid (HSa.out.next hb)
                      have HELb := Lib.hid (RowN.below HELa.out hb)
                      have HERb := Lib.hid (RowN.below HERa.out hb)
                      have HOBb := Lib.hid (HOBa.out.below hb)
                      clear hv hu hb
                      go_wp2_with fail
                      clear v0 v1 v2 vf0 vf1 vf2 hVf hMf hUf
                      obtain ⟨b', off', e9, _, hc⟩ := Ents.at HELb.out (Below.refl _ _) hlt
                      cases e9
                      rw [HXK.out] at hc
                      have c0 := hc.c0
                      have c1 := hc.c1
                      have c2 := hc.c2
                      have q0 := Hf.out.c0
                      have q1 := Hf.out.c1
                      have q2 := Hf.out.c2
                      obtain ⟨o0, o1, o2, o3, o4⟩ := HOBb.out.cells
                      have H1 : Hid (∀ w', OldC wb w' → Calls Tryz.prog 21 #[.string x.1, .string p, .string p] w' fun r w'' => r = .returned (.bool true) ∧ OldC wb w'') := fun w' hw' => by
                        refine (near14 x.1 p p HXS.out HPS.out.1 HPS.out.2 w').mono ?_
                        rintro r w'' ⟨rfl, hb⟩
                        exact ⟨by rw [HNB.out], hw'.then hb⟩
                      clear hc
                      refine wp_region_old (by kernel_rfl) (by kernel_rfl) ?_
                      repeat (go_big_quiet_step ((first | (intro hw; with_reducible exact H1.out _ hw))))
                      refine wpQuiet_nil ?_
                      intro wd hw9
                      have HSd := Lib.hid (HSb.out.next hw9)
                      have HELd := Lib.hid (RowN.below HELb.out hw9)
                      have HERd := Lib.hid (RowN.below HERb.out hw9)
                      have HOBd := Lib.hid (HOBb.out.below hw9)
                      clear hw9
                      go_wp2
                      go_roundg (gk - 1)
                      case measure => omega
                      case rel => exact ⟨k + 1, by simp, by omega, HELd.out, HERd.out, HOBd.out, HSd.out⟩
                    | false =>
                      have HNB := Lib.hid hnb
                      have hin := fdV_in HRR.out.1 ((HT6.out x hnb).1 HMM.out)
                      obtain rfl : y = (x, true) := hy.symm.trans hin
                      clear hnb hin hy
                      go_wp2_with fail
                      refine (HFD.out).mono ?_
                      rintro e wa ⟨rfl, hb⟩
                      have HSa := Lib.hid (HS0.out.next hb)
                      have HELa := Lib.hid (RowN.below HEX.out hb)
                      have HERa := Lib.hid (RowN.below HEU.out hb)
                      have HOBa := Lib.hid (HOB.out.below hb)
                      clear hb c0
                      obtain ⟨Vf, wb, Mf, hVf, hMf, hUf, hv, hu, hb⟩ := en_box14 wa x
                      have v0 := hv.c0
                      have v1 := hv.c1
                      have v2 := hv.c2
                      have vf0 := hv.f0
                      have vf1 := hv.f1
                      have vf2 := hv.f2
                      have Hf := Lib.hid hu
                      have HSb := Lib.hid (HSa.out.next hb)
                      have HELb := Lib.hid (RowN.below HELa.out hb)
                      have HERb := Lib.hid (RowN.below HERa.out hb)
                      have HOBb := Lib.hid (HOBa.out.below hb)
                      clear hv hu hb
                      go_wp2_with fail
                      clear v0 v1 v2 vf0 vf1 vf2 hVf hMf hUf
                      obtain ⟨b', off', e9, _, hc⟩ := Ents.at HELb.out (Below.refl _ _) hlt
                      cases e9
                      rw [HXK.out] at hc
                      have c0 := hc.c0
                      have c1 := hc.c1
                      have c2 := hc.c2
                      have q0 := Hf.out.c0
                      have q1 := Hf.out.c1
                      have q2 := Hf.out.c2
                      obtain ⟨o0, o1, o2, o3, o4⟩ := HOBb.out.cells
                      have H1 : Hid (∀ w', OldC wb w' → Calls Tryz.prog 21 #[.string x.1, .string p, .string p] w' fun r w'' => r = .returned (.bool false) ∧ OldC wb w'') := fun w' hw' => by
                        refine (near14 x.1 p p HXS.out HPS.out.1 HPS.out.2 w').mono ?_
                        rintro r w'' ⟨rfl, hb⟩
                        exact ⟨by rw [HNB.out], hw'.then hb⟩
                      clear hc
                      refine wp_region_old (by kernel_rfl) (by kernel_rfl) ?_
                      repeat (go_big_quiet_step ((first | (intro hw; with_reducible exact H1.out _ hw))))
                      refine wpQuiet_nil ?_
                      intro wd hw9
                      have HSd := Lib.hid (HSb.out.next hw9)
                      have HELd := Lib.hid (RowN.below HELb.out hw9)
                      have HERd := Lib.hid (RowN.below HERb.out hw9)
                      have HOBd := Lib.hid (HOBb.out.below hw9)
                      clear hw9
                      go_wp2
                      go_roundg (gk - 1)
                      case measure => omega
                      case rel => exact ⟨k + 1, by simp, by omega, HELd.out, HERd.out, HOBd.out, HSd.out⟩
                  · have hlt' : ¬ (k : Int) < (X.length : Int) := by omega
                    go_wp2
                    go_ret
                    exact ⟨by first | rfl | simp, by first | exact HS0.out.below | (rw [← hM]; exact HS0.out.below)⟩
        · have g1 : ((n1 : Int) != 0) = true := bne_iff_ne.2 hn
          obtain rfl : X = [] := HZX.out hn
          clear hn
          go_wp2
          go_ret
          exact ⟨by first | rfl | simp, HS5.out.below⟩
      · have hF3 : (if FewO (d, p, q, n, s) then (1 : Int) else 0) = 0 := if_neg hfo
        clear hfo
        go_enter Tryz.func5, Tryz.ntmps5
        go_wp2_with fail
        refine (awake14 LD _ HS0.out.et).mono ?_
        rintro e w1 ⟨rfl, hb⟩
        have HS1 := Lib.hid (HS0.out.next hb)
        replace HK := Lib.hid (HK.out.below hb)
        replace HEU := Lib.hid (RowN.below HEU.out hb)
        replace HOB := Lib.hid (HOB.out.below hb)
        clear hb
        clear o0 o1 o2 o3 o4
        obtain ⟨o0, o1, o2, o3, o4⟩ := HOB.out.cells
        go_wp2_with fail
        refine (few10 S a cap _ HK.out).mono ?_
        rintro e w9 ⟨rfl, rfl⟩
        rw [hF1]
        go_wp2_with fail
        refine (size9 u a2 cap2 _ HEU.out).mono ?_
        rintro e w9 ⟨rfl, rfl⟩
        rw [hF2]
        go_wp2_with fail
        refine (few11 (d, p, q, n, s) _).mono ?_
        rintro e w2 ⟨rfl, hb⟩
        have HS2 := Lib.hid (HS1.out.next hb)
        replace HK := Lib.hid (HK.out.below hb)
        replace HEU := Lib.hid (RowN.below HEU.out hb)
        replace HOB := Lib.hid (HOB.out.below hb)
        clear hb
        clear o0 o1 o2 o3 o4
        obtain ⟨o0, o1, o2, o3, o4⟩ := HOB.out.cells
        rw [hF3]
        go_wp2_with fail
        refine (awake14 LD _ HS2.out.et).mono ?_
        rintro e w3 ⟨rfl, hb⟩
        have HS3 := Lib.hid (HS2.out.next hb)
        replace HK := Lib.hid (HK.out.below hb)
        replace HEU := Lib.hid (RowN.below HEU.out hb)
        replace HOB := Lib.hid (HOB.out.below hb)
        clear hb
        clear o0 o1 o2 o3 o4
        obtain ⟨o0, o1, o2, o3, o4⟩ := HOB.out.cells
        go_wp2
        go_ret
        exact ⟨by first | rfl | simp, HS3.out.below⟩
    · have hF2 : (if SizeOK u then (1 : Int) else 0) = 0 := if_neg hz
      clear hz
      go_enter Tryz.func5, Tryz.ntmps5
      go_wp2_with fail
      refine (awake14 LD _ HS0.out.et).mono ?_
      rintro e w1 ⟨rfl, hb⟩
      have HS1 := Lib.hid (HS0.out.next hb)
      replace HK := Lib.hid (HK.out.below hb)
      replace HEU := Lib.hid (RowN.below HEU.out hb)
      replace HOB := Lib.hid (HOB.out.below hb)
      clear hb
      clear o0 o1 o2 o3 o4
      obtain ⟨o0, o1, o2, o3, o4⟩ := HOB.out.cells
      go_wp2_with fail
      refine (few10 S a cap _ HK.out).mono ?_
      rintro e w9 ⟨rfl, rfl⟩
      rw [hF1]
      go_wp2_with fail
      refine (size9 u a2 cap2 _ HEU.out).mono ?_
      rintro e w9 ⟨rfl, rfl⟩
      rw [hF2]
      go_wp2_with fail
      refine (awake14 LD _ HS1.out.et).mono ?_
      rintro e w2 ⟨rfl, hb⟩
      have HS2 := Lib.hid (HS1.out.next hb)
      replace HK := Lib.hid (HK.out.below hb)
      replace HEU := Lib.hid (RowN.below HEU.out hb)
      replace HOB := Lib.hid (HOB.out.below hb)
      clear hb
      clear o0 o1 o2 o3 o4
      obtain ⟨o0, o1, o2, o3, o4⟩ := HOB.out.cells
      go_wp2
      go_ret
      exact ⟨by first | rfl | simp, HS2.out.below⟩
  · have hF1 : (if FewOK S then (1 : Int) else 0) = 0 := if_neg hf
    clear hf
    go_enter Tryz.func5, Tryz.ntmps5
    go_wp2_with fail
    refine (awake14 LD _ HS0.out.et).mono ?_
    rintro e w1 ⟨rfl, hb⟩
    have HS1 := Lib.hid (HS0.out.next hb)
    replace HK := Lib.hid (HK.out.below hb)
    replace HEU := Lib.hid (RowN.below HEU.out hb)
    replace HOB := Lib.hid (HOB.out.below hb)
    clear hb
    clear o0 o1 o2 o3 o4
    obtain ⟨o0, o1, o2, o3, o4⟩ := HOB.out.cells
    go_wp2_with fail
    refine (few10 S a cap _ HK.out).mono ?_
    rintro e w9 ⟨rfl, rfl⟩
    rw [hF1]
    go_wp2_with fail
    refine (awake14 LD _ HS1.out.et).mono ?_
    rintro e w2 ⟨rfl, hb⟩
    have HS2 := Lib.hid (HS1.out.next hb)
    replace HK := Lib.hid (HK.out.below hb)
    replace HEU := Lib.hid (RowN.below HEU.out hb)
    replace HOB := Lib.hid (HOB.out.below hb)
    clear hb
    clear o0 o1 o2 o3 o4
    obtain ⟨o0, o1, o2, o3, o4⟩ := HOB.out.cells
    go_wp2
    go_ret
    exact ⟨by first | rfl | simp, HS2.out.below⟩
end Go.Proofs.YtjliagcalbdnhaaGreatDoor
