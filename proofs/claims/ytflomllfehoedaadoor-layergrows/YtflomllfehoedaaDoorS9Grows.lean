/-
  The law LayerGrows walked over Layer9: for every list of entries it returns true and changes nothing that was there. Conditions: package layer answers as Layer9 says; the list lies in memory; errorType holds error's type.
-/
import Derived.Test.YtflomllfehoedaaDoorPk7
import Derived.Test.YtflomllfehoedaaDoorS9Belows
namespace Go.Proofs.YtflomllfehoedaaDoor
open Go.RowKit

theorem pt_grow {l : List Ent} (h : RightL l) (n : Nat) (hn : n < l.length) : ptV (l.take n) l[n] = (0, l.take (n + 1)) := by
  have h1 : RightL (l.take n) := ⟨by rw [List.length_take]; have := h.1; omega, rl_take h.2 n⟩
  have h2 : RightL (l.take (n + 1)) := ⟨by rw [List.length_take]; have := h.1; omega, rl_take h.2 (n + 1)⟩
  have h3 : Asc (l.take n ++ [l[n]]) := by rw [← take_get l n hn]; exact h2.2.2.1
  have h4 : wth (l.take n) l[n] = l.take (n + 1) := by rw [wth_snoc (asc_snoc.1 h3).2, take_get l n hn]
  have h5 : ¬ (fnd (l.take n) (pl l[n]) = none ∧ (l.take n).length = 64) := fun e => by
    have := e.2
    rw [List.length_take] at this
    have := h.1
    omega
  unfold ptV
  rw [if_pos ⟨h1, h.2.1 _ (List.getElem_mem hn)⟩, if_neg h5, h4, if_pos h2]
theorem fd_mem {l : List Ent} (h : RightL l) {x : Ent} (hx : x ∈ l) : fnd l (pl x) = some x := (fnd_some h.2.2.1).2 ⟨hx, rfl⟩
theorem pt_mem {l : List Ent} (h : RightL l) {x : Ent} (hx : x ∈ l) : ptV l x = (0, l) := by
  unfold ptV
  rw [if_pos ⟨h, h.2.1 _ hx⟩, fd_mem h hx, if_neg (by simp), wth_mem h.2.2.1 hx, if_pos h]
theorem fdV_mem {l : List Ent} (h : RightL l) {x : Ent} (hx : x ∈ l) : fdV l (pl x) = (x, true) := by
  unfold fdV
  rw [if_pos h, fd_mem h hx]
attribute [local go_sem ↓] old_ldi old_lds old_lde3 old_eqen old_neen
attribute [local go_sem] oldC_forall isC1_ptr isS1_ptr c1V_ptr isE3_ptr e3V_ptr isEv_agg evEq_agg eta_ent
set_option maxRecDepth 10000 in
set_option maxHeartbeats 4000000 in
theorem lawGrows (L : Layer9) (l : List Ent) (a : Option Addr) (cap : Nat) (W : World) (hg : EtLaid W) (h : Ents W a cap l) : Calls Tryd.prog 7 #[.slice a l.length cap] W fun e w' => e = .returned (.bool true) ∧ Below W.heap.size W w' := by
  have HS0 := Lib.hid (st_self hg)
  have HE := Lib.hid h
  clear hg h
  by_cases hz : SizeOK l
  · have HSm := Lib.hid (sm_size hz)
    have hZ1 : (if SizeOK l then (1 : Int) else 0) = 1 := if_pos hz
    clear hz
    by_cases hr : RightL l
    · have hr1 : decide (RightL l) = true := decide_eq_true hr
      have HR := Lib.hid hr
      have HL := Lib.hid hr.1
      clear hr
      go_enter Tryd.func7, Tryd.ntmps7
      go_wp2_with fail
      refine (awake9 L _ HS0.out.et).mono ?_
      rintro e w1 ⟨rfl, hb⟩
      have HS1 := Lib.hid (HS0.out.next hb)
      replace HE := Lib.hid (HE.out.below hb)
      clear hb
      go_wp2_with fail
      refine (size9 l a cap _ HE.out).mono ?_
      rintro e w9 ⟨rfl, rfl⟩
      rw [hZ1]
      go_wp2_with fail
      refine (L.right l a cap _ HS1.out.et HE.out HSm.out).mono ?_
      rintro e w2 ⟨rfl, hb⟩
      have HS2 := Lib.hid (HS1.out.next hb)
      replace HE := Lib.hid (HE.out.below hb)
      clear hb
      rw [hr1]
      go_wp2
      go_loopg [3, 4] l.length (fun g v i wx => ∃ (n : Nat) (a2 : Option Addr) (cap2 : Nat), v = .slice a2 n cap2 ∧ i = .int .i64 (n : Int) ∧ n + g = l.length ∧ Hid (Ents wx a2 cap2 (l.take n)) ∧ Hid (St W wx) ∧ Hid (Ents wx a cap l))
      case atStart => exact ⟨0, none, 0, rfl, rfl, by omega, ents_nil _ _ _, HS2.out, HE.out⟩
      case round =>
        obtain ⟨n, a2, cap2, rfl, rfl, hn, HE2, HS3, HE3⟩ := hrel
        replace HE := HE3
        clear HE3
        have hw : IntKind.i64.wrap ((n : Int) + 1) = (n : Int) + 1 := IntWalk.i64_in _ (by have := HL.out; omega)
        by_cases hlt : n < l.length
        · have hlt' : (n : Int) < (l.length : Int) := by omega
          obtain ⟨b, off, e1, _, hc⟩ := Ents.at HE.out (Below.refl _ _) hlt
          have HX := Lib.hid (HR.out.2.1 _ (List.getElem_mem hlt))
          have HV := Lib.hid (pt_grow HR.out n hlt)
          obtain ⟨x, hx⟩ : ∃ x, l[n] = x := ⟨_, rfl⟩
          rw [hx] at hc HX HV
          clear hx
          cases e1
          have c0 := hc.c0
          have c1 := hc.c1
          have c2 := hc.c2
          have hln : (l.take n).length = n := by rw [List.length_take]; omega
          have hln1 : (l.take (n + 1)).length = n + 1 := by rw [List.length_take]; omega
          have HP := Lib.hid (L.put (l.take n) a2 cap2 x wr HS3.out.et HE2.out (sm_right ⟨by rw [hln]; have := HL.out; omega, rl_take HR.out.2 n⟩) (sm_one HX.out))
          rw [HV.out, hln, hln1] at HP
          clear hc hln hln1
          go_wp2_with fail
          refine HP.out.mono ?_
          rintro e w4 ⟨a3, cap3, er, rfl, hE3, hEr, hb⟩
          have HS4 := Lib.hid (HS3.out.next hb)
          replace HE := Lib.hid (HE.out.below hb)
          have HE3 := Lib.hid hE3
          have HEr := Lib.hid hEr
          clear hE3 hEr
          clear hb
          go_wp2_with fail
          refine (code_er _ _ _ HEr.out HS4.out.et).mono ?_
          rintro e w5 ⟨rfl, hb⟩
          have HS5 := Lib.hid (HS4.out.next hb)
          replace HE := Lib.hid (HE.out.below hb)
          replace HE3 := Lib.hid (HE3.out.below hb)
          clear hb
          go_wp2
          go_roundg (gk - 1)
          case measure => omega
          case rel => exact ⟨n + 1, a3, cap3, rfl, by simp, by omega, HE3.out, HS5.out, HE.out⟩
        · have hlt' : ¬ (n : Int) < (l.length : Int) := by omega
          obtain rfl : n = l.length := by omega
          replace HE2 := Lib.hid (show Ents wr a2 cap2 l by have := HE2.out; rw [List.take_length] at this; exact this)
          go_wp2
          go_loopg [7] l.length (fun g i wx => ∃ (m : Nat), i = .int .i64 (m : Int) ∧ m + g = l.length ∧ Hid (Ents wx a2 cap2 l) ∧ Hid (St W wx) ∧ Hid (Ents wx a cap l))
          case atStart => exact ⟨0, rfl, by omega, HE2.out, HS3.out, HE.out⟩
          case round =>
            obtain ⟨m, rfl, hm, HF2, HS6, HF⟩ := hrel
            by_cases hlm : m < l.length
            · have hlm' : (m : Int) < (l.length : Int) := by omega
              have hwm : IntKind.i64.wrap ((m : Int) + 1) = (m : Int) + 1 := IntWalk.i64_in _ (by have := HL.out; omega)
              obtain ⟨b, off, e1, _, hc⟩ := Ents.at HF.out (Below.refl _ _) hlm
              have HX := Lib.hid (HR.out.2.1 _ (List.getElem_mem hlm))
              have HXM := Lib.hid (List.getElem_mem hlm)
              obtain ⟨x, hx⟩ : ∃ x, l[m] = x := ⟨_, rfl⟩
              rw [hx] at hc HX HXM
              have HXK := Lib.hid hx
              clear hx
              cases e1
              have c0 := hc.c0
              have c1 := hc.c1
              have c2 := hc.c2
              have HP := Lib.hid (L.put l a2 cap2 x wr HS6.out.et HF2.out (sm_right HR.out) (sm_one HX.out))
              rw [pt_mem HR.out HXM.out] at HP
              clear hc
              go_wp2_with fail
              refine HP.out.mono ?_
              rintro e w7 ⟨a3, cap3, er, rfl, hE3, hEr, hb⟩
              have HS7 := Lib.hid (HS6.out.next hb)
              replace HF := Lib.hid (HF.out.below hb)
              replace HF2 := Lib.hid (HF2.out.below hb)
              have HE3 := Lib.hid hE3
              have HEr := Lib.hid hEr
              clear hE3 hEr
              clear hb
              clear c0 c1 c2
              have hcx := Ents.at HF.out (Below.refl _ _) hlm
              rw [HXK.out] at hcx
              obtain ⟨b', off', e1, _, hcx⟩ := hcx
              cases e1
              have c0 := hcx.c0
              clear hcx
              have HFd := Lib.hid (L.find l a2 cap2 x.1 w7 HS7.out.et HF2.out (sm_right HR.out) (by have := (sm_one HX.out).2 x (by simp); omega))
              rw [fdV_mem HR.out HXM.out] at HFd
              go_wp2_with fail
              refine HFd.out.mono ?_
              rintro e w8 ⟨rfl, hb⟩
              have HS8 := Lib.hid (HS7.out.next hb)
              replace HF := Lib.hid (HF.out.below hb)
              replace HF2 := Lib.hid (HF2.out.below hb)
              replace HE3 := Lib.hid (HE3.out.below hb)
              replace HEr := Lib.hid (HEr.out.below hb)
              clear hb
              clear c0
              have hb4 : Below w8.heap.size w8 (w8.alloc (.cells #[.string x.1, .int .i64 x.2.1, .string x.2.2] 38)) := (Below.refl _ _).alloc (Nat.le_refl _) _
              have q4 := enAt_new w8 x.1 x.2.1 x.2.2
              obtain ⟨w4, hw4⟩ : ∃ w4, w8.alloc (.cells #[.string x.1, .int .i64 x.2.1, .string x.2.2] 38) = w4 := ⟨_, rfl⟩
              obtain ⟨M, hM⟩ : ∃ M, w8.heap.size = M := ⟨_, rfl⟩
              rw [hw4] at hb4 q4
              rw [hM] at q4
              have hb := hb4
              have HS4 := Lib.hid (HS8.out.next hb)
              replace HF := Lib.hid (HF.out.below hb)
              replace HF2 := Lib.hid (HF2.out.below hb)
              replace HE3 := Lib.hid (HE3.out.below hb)
              replace HEr := Lib.hid (HEr.out.below hb)
              have hcx := Ents.at HF.out (Below.refl _ _) hlm
              rw [HXK.out] at hcx
              obtain ⟨b', off', e1, _, hcx⟩ := hcx
              cases e1
              have c0 := hcx.c0
              have c1 := hcx.c1
              have c2 := hcx.c2
              have g0 := q4.c0
              have g1 := q4.c1
              have g2 := q4.c2
              have hxx : decide (x = x) = true := decide_eq_true rfl
              have H1 : Hid (∀ w', OldC w4 w' → Calls Tryd.prog 12 #[er] w' fun e w'' => e = .returned (.int .i64 0) ∧ OldC w4 w'') := fun w' hw' => by
                refine (code_er _ _ _ (HEr.out.below hw') (HS4.out.old hw').et).mono ?_
                rintro e w'' ⟨rfl, hb⟩
                exact ⟨rfl, hw'.then hb⟩
              have H2 : Hid (∀ w', OldC w4 w' → Calls Tryd.prog 15 #[.slice a3 l.length cap3, .slice a2 l.length cap2] w' fun e w'' => e = .returned (.int .i64 1) ∧ OldC w4 w'') := fun w' hw' => by
                refine (same9 l l a3 a2 cap3 cap2 w' (HE3.out.below hw') (HF2.out.below hw') (by have := HL.out; unfold maxLen; omega)).mono ?_
                rintro e w'' ⟨rfl, hb⟩
                exact ⟨by rw [if_pos rfl], hw'.then hb⟩
              clear hb hb4 q4 hcx
              go_wp2_with fail
              refine wp_region_old (by kernel_rfl) (by kernel_rfl) ?_
              repeat (go_big_quiet_step ((first | (intro hw; with_reducible exact H1.out _ hw) | (intro hw; with_reducible exact H2.out _ hw))))
              refine wpQuiet_nil ?_
              intro w5 hb
              have HS5 := Lib.hid (HS4.out.old hb)
              replace HF := Lib.hid (HF.out.below hb)
              replace HF2 := Lib.hid (HF2.out.below hb)
              clear hb 
              go_wp2
              go_roundg (l.length - (m + 1))
              case measure => omega
              case rel => exact ⟨m + 1, by simp, by omega, HF2.out, HS5.out, HF.out⟩
            · have hlm' : ¬ (m : Int) < (l.length : Int) := by omega
              go_wp2_with fail
              refine (same9 l l a2 a cap2 cap wr HF2.out HF.out (by have := HL.out; unfold maxLen; omega)).mono ?_
              rintro e w7 ⟨rfl, hb⟩
              have HS7 := Lib.hid (HS6.out.next hb)
              rw [if_pos rfl]
              clear hb
              go_wp2
              go_ret
              exact ⟨by first | rfl | simp, HS7.out.below⟩
    · have hr1 : decide (RightL l) = false := decide_eq_false hr
      clear hr
      go_enter Tryd.func7, Tryd.ntmps7
      go_wp2_with fail
      refine (awake9 L _ HS0.out.et).mono ?_
      rintro e w1 ⟨rfl, hb⟩
      have HS1 := Lib.hid (HS0.out.next hb)
      replace HE := Lib.hid (HE.out.below hb)
      clear hb
      go_wp2_with fail
      refine (size9 l a cap _ HE.out).mono ?_
      rintro e w9 ⟨rfl, rfl⟩
      rw [hZ1]
      go_wp2_with fail
      refine (L.right l a cap _ HS1.out.et HE.out HSm.out).mono ?_
      rintro e w2 ⟨rfl, hb⟩
      have HS2 := Lib.hid (HS1.out.next hb)
      replace HE := Lib.hid (HE.out.below hb)
      clear hb
      rw [hr1]
      go_wp2_with fail
      refine (awake9 L _ HS2.out.et).mono ?_
      rintro e w3 ⟨rfl, hb⟩
      have HS3 := Lib.hid (HS2.out.next hb)
      clear hb
      go_wp2
      go_ret
      exact ⟨by first | rfl | simp, HS3.out.below⟩
  · have hZ1 : (if SizeOK l then (1 : Int) else 0) = 0 := if_neg hz
    clear hz
    go_enter Tryd.func7, Tryd.ntmps7
    go_wp2_with fail
    refine (awake9 L _ HS0.out.et).mono ?_
    rintro e w1 ⟨rfl, hb⟩
    have HS1 := Lib.hid (HS0.out.next hb)
    replace HE := Lib.hid (HE.out.below hb)
    clear hb
    go_wp2_with fail
    refine (size9 l a cap _ HE.out).mono ?_
    rintro e w9 ⟨rfl, rfl⟩
    rw [hZ1]
    go_wp2_with fail
    refine (awake9 L _ HS1.out.et).mono ?_
    rintro e w2 ⟨rfl, hb⟩
    have HS2 := Lib.hid (HS1.out.next hb)
    clear hb
    go_wp2
    go_ret
    exact ⟨by first | rfl | simp, HS2.out.below⟩
end Go.Proofs.YtflomllfehoedaaDoor
