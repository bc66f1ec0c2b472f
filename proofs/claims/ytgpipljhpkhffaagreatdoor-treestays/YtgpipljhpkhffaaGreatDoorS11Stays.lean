/-
  The law TreeStays walked over Tree11: for every tree and list of ops it returns true and changes nothing that was there. Conditions: package tree answers as Tree11 says; the tree and the ops lie in memory; errorType holds error's type.
-/
import Derived.Test.YtgpipljhpkhffaaGreatDoorS11Ops
import Derived.Deep.LoopGhost
namespace Go.Proofs.YtgpipljhpkhffaaGreatDoor
open Go.RowKit

set_option maxRecDepth 10000 in
set_option maxHeartbeats 8000000 in
theorem lawStays (L : Tree11) (t : List Ent) (a : Option Addr) (cap : Nat) (l : List Op11) (a2 : Option Addr) (cap2 : Nat) (W : World) (hg : EtLaid W) (h : Ents W a cap t) (hl : Ops W a2 cap2 l) (hok : ∀ x ∈ l, opOK x) :
    Calls Tryz.prog 3 #[.slice a t.length cap, .slice a2 l.length cap2] W fun e w' => e = .returned (.bool true) ∧ Below W.heap.size W w' := by
  have HS0 := Lib.hid (st_self hg)
  have HE := Lib.hid h
  have HO := Lib.hid hl
  have HOK := Lib.hid hok
  have HCAP := Lib.hid hl.1
  clear hg h hl hok
  by_cases hz : SizeOK t
  · have HSM := Lib.hid (sm_size hz)
    have HL7 := Lib.hid hz.1
    by_cases h40 : (40 : Int) < (l.length : Int)
    · go_enter Tryz.func3, Tryz.ntmps3
      go_wp2_with fail
      refine (awake11 L _ HS0.out.et).mono ?_
      rintro e w1 ⟨rfl, hb⟩
      have HS1 := Lib.hid (HS0.out.next hb)
      replace HE := Lib.hid (HE.out.below hb)
      clear hb
      go_wp2_with fail
      refine (size9 t a cap _ HE.out).mono ?_
      rintro e w9 ⟨rfl, rfl⟩
      rw [if_pos hz]
      go_wp2_with fail
      refine (awake11 L _ HS1.out.et).mono ?_
      rintro e w2 ⟨rfl, hb⟩
      have HS2 := Lib.hid (HS1.out.next hb)
      clear hb
      go_wp2
      go_ret
      exact ⟨by first | rfl | simp, HS2.out.below⟩
    · have HL40 := Lib.hid (show l.length ≤ 40 by omega)
      by_cases ht : TreeL t
      · have HT := Lib.hid ht
        go_enter Tryz.func3, Tryz.ntmps3
        go_wp2_with fail
        refine (awake11 L _ HS0.out.et).mono ?_
        rintro e w1 ⟨rfl, hb⟩
        have HS1 := Lib.hid (HS0.out.next hb)
        replace HE := Lib.hid (HE.out.below hb)
        replace HO := Lib.hid (RowN.below HO.out hb)
        clear hb
        go_wp2_with fail
        refine (size9 t a cap _ HE.out).mono ?_
        rintro e w9 ⟨rfl, rfl⟩
        rw [if_pos hz]
        go_wp2_with fail
        refine (L.tree t a cap _ HS1.out.et HE.out HSM.out).mono ?_
        rintro e w2 ⟨rfl, hb⟩
        have HS2 := Lib.hid (HS1.out.next hb)
        replace HE := Lib.hid (HE.out.below hb)
        replace HO := Lib.hid (RowN.below HO.out hb)
        clear hb
        rw [decide_eq_true ht]
        go_wp2
        clear ht
        go_loopg [0, 5] l.length (fun g v i wx => ∃ (k : Nat) (a3 : Option Addr) (cap3 : Nat) (T : List Ent), v = .slice a3 T.length cap3 ∧ i = .int .i64 (k : Int) ∧ k + g = l.length ∧ Hid (Ents wx a3 cap3 T) ∧ Hid (TreeL T ∧ T.length ≤ 70 + k) ∧ Hid (Ops wx a2 cap2 l) ∧ Hid (St W wx))
        case atStart => exact ⟨0, a, cap, t, rfl, rfl, by omega, HE.out, ⟨HT.out, by have := HL7.out; omega⟩, HO.out, HS2.out⟩
        case round =>
          obtain ⟨k, a3, cap3, T, rfl, rfl, hk, HET, HTT, HOX, HS3⟩ := hrel
          have hw : IntKind.i64.wrap ((k : Int) + 1) = (k : Int) + 1 := IntWalk.i64_in _ (by have := HL40.out; omega)
          by_cases hlt : k < l.length
          · have hlt' : (k : Int) < (l.length : Int) := by omega
            have hkc : (k : Int) ≤ (cap2 : Int) := by have := HCAP.out; omega
            obtain ⟨b, off, e9, _, hc⟩ := Ops.at HOX.out (Below.refl _ _) hlt
            have HX := Lib.hid (HOK.out _ (List.getElem_mem hlt))
            obtain ⟨o, ho⟩ : ∃ o, l[k] = o := ⟨_, rfl⟩
            rw [ho] at hc HX
            have HXK := Lib.hid ho
            clear ho
            subst e9
            have c0 := hc.c0
            have c1 := hc.c1
            have c2 := hc.c2
            have c3 := hc.c3
            have c4 := hc.c4
            clear hc
            by_cases hf : FewO o
            · go_wp2_with fail
              refine (few11 o _).mono ?_
              rintro e w4 ⟨rfl, hb⟩
              rw [if_pos hf]
              have HF := Lib.hid hf
              have HS4 := Lib.hid (HS3.out.next hb)
              replace HET := Lib.hid (HET.out.below hb)
              replace HOX := Lib.hid (RowN.below HOX.out hb)
              clear hb c0 c1 c2 c3 c4 hf
              obtain ⟨b9, off9, e9, _, hc⟩ := Ops.at HOX.out (Below.refl _ _) hlt
              rw [HXK.out] at hc
              cases e9
              have c0 := hc.c0
              have c1 := hc.c1
              have c2 := hc.c2
              have c3 := hc.c3
              have c4 := hc.c4
              clear hc
              go_wp2_with fail
              refine (of11 o HX.out _).mono ?_
              rintro e w5 ⟨r, hr, rfl, hb⟩
              have HS5 := Lib.hid (HS4.out.next hb)
              replace HET := Lib.hid (HET.out.below hb)
              replace HOX := Lib.hid (RowN.below HOX.out hb)
              have HR := Lib.hid hr
              clear hb c0 c1 c2 c3 c4 hr
              have HST := Lib.hid (stays_do HTT.out.1 (r, o.2))
              obtain ⟨res, hres⟩ : ∃ res, doV T (r, o.2) = res := ⟨_, rfl⟩
              have HRS := Lib.hid hres
              rw [hres] at HST
              clear hres
              obtain ⟨n1, X⟩ := res
              go_wp2_with fail
              refine (do11 L T a3 cap3 (r, o.2) _ HS5.out.et HET.out HTT.out.1 (by have := HTT.out.2; have := HL40.out; omega) HF.out HR.out HX.out.2.1).mono ?_
              rw [HRS.out]
              rintro e w6 ⟨a4, cap4, er, rfl, h9, e9, hb⟩
              have HS6 := Lib.hid (HS5.out.next hb)
              replace HET := Lib.hid (HET.out.below hb)
              replace HOX := Lib.hid (RowN.below HOX.out hb)
              have HEX := Lib.hid h9
              have HER := Lib.hid e9
              clear hb h9 e9
              go_wp2_with fail
              refine (code_er _ _ _ HER.out HS6.out.et).mono ?_
              rintro e w7 ⟨rfl, hb⟩
              have HS7 := Lib.hid (HS6.out.next hb)
              replace HET := Lib.hid (HET.out.below hb)
              replace HOX := Lib.hid (RowN.below HOX.out hb)
              replace HEX := Lib.hid (HEX.out.below hb)
              clear hb
              by_cases hn : n1 = 0
              · subst hn
                obtain ⟨b1, b2⟩ := stays_tree HST.out
                have HTX := Lib.hid b1
                have HLX := Lib.hid b2
                clear b1 b2 HST HRS
                go_wp2_with fail
                refine (L.tree X a4 cap4 _ HS7.out.et HEX.out (sm_tree HTX.out (by have := HLX.out; have := HTT.out.2; have := HL40.out; omega))).mono ?_
                rintro e w8 ⟨rfl, hb⟩
                rw [decide_eq_true HTX.out]
                have HS8 := Lib.hid (HS7.out.next hb)
                replace HOX := Lib.hid (RowN.below HOX.out hb)
                replace HEX := Lib.hid (HEX.out.below hb)
                clear hb
                go_wp2
                go_roundg (gk - 1)
                case measure => omega
                case rel => exact ⟨k + 1, a4, cap4, X, rfl, by simp, by omega, HEX.out, ⟨HTX.out, by have := HLX.out; have := HTT.out.2; omega⟩, HOX.out, HS8.out⟩
              · have g1 : ((n1 : Int) == 0) = false := beq_eq_false_iff_ne.2 hn
                have g2 : ((n1 : Int) != 0) = true := by rw [bne, g1]; rfl
                obtain rfl : X = [] := by
                  rcases HST.out with ⟨_, h⟩ | ⟨h, _⟩
                  · exact h
                  · exact absurd h hn
                clear hn
                go_wp2
                go_roundg (gk - 1)
                case measure => omega
                case rel => exact ⟨k + 1, a3, cap3, T, rfl, by simp, by omega, HET.out, ⟨HTT.out.1, by have := HTT.out.2; omega⟩, HOX.out, HS7.out⟩
            · go_wp2_with fail
              refine (few11 o _).mono ?_
              rintro e w4 ⟨rfl, hb⟩
              rw [if_neg hf]
              have HS4 := Lib.hid (HS3.out.next hb)
              clear hb hf
              go_wp2
              go_ret
              exact ⟨by first | rfl | simp, HS4.out.below⟩
          · have hlt' : ¬ (k : Int) < (l.length : Int) := by omega
            go_wp2
            go_ret
            exact ⟨by first | rfl | simp, HS3.out.below⟩
      · go_enter Tryz.func3, Tryz.ntmps3
        go_wp2_with fail
        refine (awake11 L _ HS0.out.et).mono ?_
        rintro e w1 ⟨rfl, hb⟩
        have HS1 := Lib.hid (HS0.out.next hb)
        replace HE := Lib.hid (HE.out.below hb)
        clear hb
        go_wp2_with fail
        refine (size9 t a cap _ HE.out).mono ?_
        rintro e w9 ⟨rfl, rfl⟩
        rw [if_pos hz]
        go_wp2_with fail
        refine (L.tree t a cap _ HS1.out.et HE.out HSM.out).mono ?_
        rintro e w2 ⟨rfl, hb⟩
        have HS2 := Lib.hid (HS1.out.next hb)
        clear hb
        rw [decide_eq_false ht]
        go_wp2
        go_ret
        exact ⟨by first | rfl | simp, HS2.out.below⟩
  · go_enter Tryz.func3, Tryz.ntmps3
    go_wp2_with fail
    refine (awake11 L _ HS0.out.et).mono ?_
    rintro e w1 ⟨rfl, hb⟩
    have HS1 := Lib.hid (HS0.out.next hb)
    replace HE := Lib.hid (HE.out.below hb)
    clear hb
    go_wp2_with fail
    refine (size9 t a cap _ HE.out).mono ?_
    rintro e w9 ⟨rfl, rfl⟩
    rw [if_neg hz]
    go_wp2_with fail
    refine (awake11 L _ HS1.out.et).mono ?_
    rintro e w2 ⟨rfl, hb⟩
    have HS2 := Lib.hid (HS1.out.next hb)
    clear hb
    go_wp2
    go_ret
    exact ⟨by first | rfl | simp, HS2.out.below⟩
end Go.Proofs.YtgpipljhpkhffaaGreatDoor
