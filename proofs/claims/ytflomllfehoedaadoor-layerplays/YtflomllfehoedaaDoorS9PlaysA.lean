/-
  The law LayerPlays walked over Layer9 where it does not come to a right layer: of a size that is not looked at, or not right. Conditions: package layer answers as Layer9 says; the list lies in memory; errorType holds error's type.
-/
import Derived.Test.YtflomllfehoedaaDoorPk7
import Derived.Test.YtflomllfehoedaaDoorS9Puts
import Derived.Test.YtflomllfehoedaaDoorS9Last
namespace Go.Proofs.YtflomllfehoedaaDoor
open Go.RowKit

theorem Ents.of_row {w : World} {a : Option Addr} {cap : Nat} {l : List Ent} (h : RowN 3 enc w a cap l) : Ents w a cap l := h
attribute [local go_sem ↓] eqw_en new_en old_ldi old_lds old_lde3 old_eqen old_neen
attribute [local go_sem] isEv_agg evEq_agg eta_ent oldC_forall isC1_ptr isS1_ptr c1V_ptr isE3_ptr e3V_ptr
set_option maxRecDepth 10000 in
set_option maxHeartbeats 8000000 in
theorem plays_bad (L : Layer9) (l : List Ent) (a : Option Addr) (cap : Nat) (x : Ent) (p : ByteArray) (W : World) (hg : EtLaid W) (h : Ents W a cap l) (hbad : ¬ SizeOK l ∨ (SizeOK l ∧ ¬ (x.1.size ≤ 100 ∧ x.2.2.size ≤ 600 ∧ p.size ≤ 100))) : Calls Tryd.prog 5 #[.slice a l.length cap, enV x, .string p] W fun e w' => e = .returned (.bool true) ∧ Below W.heap.size W w' := by
  have HS0 := Lib.hid (st_self hg)
  obtain ⟨w0, hw0⟩ : ∃ w0, W.alloc (.cells #[.string x.1, .int .i64 x.2.1, .string x.2.2] 38) = w0 := ⟨_, rfl⟩
  obtain ⟨N, hN⟩ : ∃ N, W.heap.size = N := ⟨_, rfl⟩
  have hb : Below W.heap.size W w0 := by rw [← hw0]; exact (Below.refl _ _).alloc (Nat.le_refl _) _
  have HQe := Lib.hid (show EnAt w0 N x.1 x.2.1 x.2.2 by rw [← hw0, ← hN]; exact enAt_new _ _ _ _)
  replace HS0 := Lib.hid (HS0.out.next hb)
  have HE := Lib.hid (Ents.of_row (h.below hb))
  clear hg h hb
  rcases hbad with hz | ⟨hz, hs⟩
  · have hZ1 : (if SizeOK l then (1 : Int) else 0) = 0 := if_neg hz
    clear hz
    go_enter Tryd.func5, Tryd.ntmps5
    go_wp2_with fail
    refine (awake9 L _ HS0.out.et).mono ?_
    rintro e w1 ⟨rfl, hb⟩
    have HS1 := Lib.hid (HS0.out.next hb)
    replace HE := Lib.hid (HE.out.below hb)
    replace HQe := Lib.hid (HQe.out.below hb)
    clear hb
    go_wp2_with fail
    refine (size9 l a cap _ HE.out).mono ?_
    rintro e w9 ⟨rfl, rfl⟩
    rw [hZ1]
    go_wp2_with fail
    refine (awake9 L _ HS1.out.et).mono ?_
    rintro e w2 ⟨rfl, hb⟩
    have HS2 := Lib.hid (HS1.out.next hb)
    clear hb
    go_wp2
    go_ret
    exact ⟨by first | rfl | simp, HS2.out.below⟩
  · have hZ1 : (if SizeOK l then (1 : Int) else 0) = 1 := if_pos hz
    clear hz
    by_cases h1 : (100 : Int) < (x.1.size : Int)
    · clear hs
      go_enter Tryd.func5, Tryd.ntmps5
      go_wp2_with fail
      refine (awake9 L _ HS0.out.et).mono ?_
      rintro e w1 ⟨rfl, hb⟩
      have HS1 := Lib.hid (HS0.out.next hb)
      replace HE := Lib.hid (HE.out.below hb)
      replace HQe := Lib.hid (HQe.out.below hb)
      clear hb
      have e0 := HQe.out.c0
      have e1 := HQe.out.c1
      have e2 := HQe.out.c2
      go_wp2_with fail
      refine (size9 l a cap _ HE.out).mono ?_
      rintro e w9 ⟨rfl, rfl⟩
      rw [hZ1]
      go_wp2_with fail
      refine (awake9 L _ HS1.out.et).mono ?_
      rintro e w2 ⟨rfl, hb⟩
      have HS2 := Lib.hid (HS1.out.next hb)
      clear hb
      go_wp2
      go_ret
      exact ⟨by first | rfl | simp, HS2.out.below⟩
    · by_cases h2 : (600 : Int) < (x.2.2.size : Int)
      · clear hs
        go_enter Tryd.func5, Tryd.ntmps5
        go_wp2_with fail
        refine (awake9 L _ HS0.out.et).mono ?_
        rintro e w1 ⟨rfl, hb⟩
        have HS1 := Lib.hid (HS0.out.next hb)
        replace HE := Lib.hid (HE.out.below hb)
        replace HQe := Lib.hid (HQe.out.below hb)
        clear hb
        have e0 := HQe.out.c0
        have e1 := HQe.out.c1
        have e2 := HQe.out.c2
        go_wp2_with fail
        refine (size9 l a cap _ HE.out).mono ?_
        rintro e w9 ⟨rfl, rfl⟩
        rw [hZ1]
        go_wp2_with fail
        refine (awake9 L _ HS1.out.et).mono ?_
        rintro e w2 ⟨rfl, hb⟩
        have HS2 := Lib.hid (HS1.out.next hb)
        clear hb
        go_wp2
        go_ret
        exact ⟨by first | rfl | simp, HS2.out.below⟩
      · have h3 : (100 : Int) < (p.size : Int) := by omega
        clear hs
        go_enter Tryd.func5, Tryd.ntmps5
        go_wp2_with fail
        refine (awake9 L _ HS0.out.et).mono ?_
        rintro e w1 ⟨rfl, hb⟩
        have HS1 := Lib.hid (HS0.out.next hb)
        replace HE := Lib.hid (HE.out.below hb)
        replace HQe := Lib.hid (HQe.out.below hb)
        clear hb
        have e0 := HQe.out.c0
        have e1 := HQe.out.c1
        have e2 := HQe.out.c2
        go_wp2_with fail
        refine (size9 l a cap _ HE.out).mono ?_
        rintro e w9 ⟨rfl, rfl⟩
        rw [hZ1]
        go_wp2_with fail
        refine (awake9 L _ HS1.out.et).mono ?_
        rintro e w2 ⟨rfl, hb⟩
        have HS2 := Lib.hid (HS1.out.next hb)
        clear hb
        go_wp2
        go_ret
        exact ⟨by first | rfl | simp, HS2.out.below⟩
set_option maxRecDepth 10000 in
set_option maxHeartbeats 8000000 in
theorem plays_wrong (L : Layer9) (l : List Ent) (a : Option Addr) (cap : Nat) (x : Ent) (p : ByteArray) (W : World) (hg : EtLaid W) (h : Ents W a cap l) (hz : SizeOK l) (hs : x.1.size ≤ 100 ∧ x.2.2.size ≤ 600 ∧ p.size ≤ 100) (hr : ¬ RightL l) : Calls Tryd.prog 5 #[.slice a l.length cap, enV x, .string p] W fun e w' => e = .returned (.bool true) ∧ Below W.heap.size W w' := by
  have HS0 := Lib.hid (st_self hg)
  obtain ⟨w0, hw0⟩ : ∃ w0, W.alloc (.cells #[.string x.1, .int .i64 x.2.1, .string x.2.2] 38) = w0 := ⟨_, rfl⟩
  obtain ⟨N, hN⟩ : ∃ N, W.heap.size = N := ⟨_, rfl⟩
  have hb : Below W.heap.size W w0 := by rw [← hw0]; exact (Below.refl _ _).alloc (Nat.le_refl _) _
  have HQe := Lib.hid (show EnAt w0 N x.1 x.2.1 x.2.2 by rw [← hw0, ← hN]; exact enAt_new _ _ _ _)
  replace HS0 := Lib.hid (HS0.out.next hb)
  have HE := Lib.hid (Ents.of_row (h.below hb))
  clear hg h hb
  have HSm := Lib.hid (sm_size hz)
  have HSR := Lib.hid (show l.length ≤ 900 ∧ ∀ e ∈ l, e.1.size ≤ 100000 from ⟨by have := hz.1; omega, fun e he => by have := hz.2 e he; omega⟩)
  have hZ1 : (if SizeOK l then (1 : Int) else 0) = 1 := if_pos hz
  have HZs := Lib.hid hs
  have h1 : ¬ (100 : Int) < (x.1.size : Int) := by omega
  have h2 : ¬ (600 : Int) < (x.2.2.size : Int) := by omega
  have h3 : ¬ (100 : Int) < (p.size : Int) := by omega
  have HSx := Lib.hid (show Sm [x] from ⟨by simp, fun e he => by
    obtain rfl : e = x := by simpa using he
    omega⟩)
  clear hz hs
  have hr1 : decide (RightL l) = false := decide_eq_false hr
  have HV := Lib.hid (show lyV l = (1, ⟨#[]⟩) from if_neg hr)
  have HV1 := Lib.hid (show ptV l x = (1, []) from if_neg fun h => hr h.1)
  have HV2 := Lib.hid (show dpV l p.data.toList = (1, []) from if_neg hr)
  have HV3 := Lib.hid (show fdV l p.data.toList = (zE, false) from if_neg hr)
  have HV4 := Lib.hid (show bwV l p.data.toList = [] from if_neg hr)
  clear hr
  go_enter Tryd.func5, Tryd.ntmps5
  go_wp2_with fail
  refine (awake9 L _ HS0.out.et).mono ?_
  rintro e w1 ⟨rfl, hb⟩
  have HS1 := Lib.hid (HS0.out.next hb)
  replace HE := Lib.hid (HE.out.below hb)
  replace HQe := Lib.hid (HQe.out.below hb)
  clear hb
  have e0 := HQe.out.c0
  have e1 := HQe.out.c1
  have e2 := HQe.out.c2
  go_wp2_with fail
  refine (size9 l a cap _ HE.out).mono ?_
  rintro e w9 ⟨rfl, rfl⟩
  rw [hZ1]
  go_wp2_with fail
  refine (refRight9 l a cap _ HE.out (by have := HSR.out.1; omega) HSR.out.2).mono ?_
  rintro e w2 ⟨rfl, hb⟩
  have HS2 := Lib.hid (HS1.out.next hb)
  replace HE := Lib.hid (HE.out.below hb)
  replace HQe := Lib.hid (HQe.out.below hb)
  clear hb
  rw [hr1]
  clear e0 e1 e2
  go_wp2_with fail
  refine (L.lay l a cap _ HS2.out.et HE.out HSm.out).mono ?_
  rintro e w3 ⟨er, rfl, hEr, hb⟩
  have HS3 := Lib.hid (HS2.out.next hb)
  replace HE := Lib.hid (HE.out.below hb)
  replace HQe := Lib.hid (HQe.out.below hb)
  have HEr := Lib.hid hEr
  clear hEr
  clear hb
  rw [HV.out] at HEr ⊢
  go_wp2_with fail
  refine (L.right l a cap _ HS3.out.et HE.out HSm.out).mono ?_
  rintro e w4 ⟨rfl, hb⟩
  have HS4 := Lib.hid (HS3.out.next hb)
  replace HE := Lib.hid (HE.out.below hb)
  replace HQe := Lib.hid (HQe.out.below hb)
  replace HEr := Lib.hid (HEr.out.below hb)
  clear hb
  rw [hr1]
  go_wp2_with fail
  refine (code_er _ _ _ HEr.out HS4.out.et).mono ?_
  rintro e w5 ⟨rfl, hb⟩
  have HS5 := Lib.hid (HS4.out.next hb)
  replace HE := Lib.hid (HE.out.below hb)
  replace HQe := Lib.hid (HQe.out.below hb)
  clear hb
  have HS6 := HS5
  have e0 := HQe.out.c0
  have e1 := HQe.out.c1
  have e2 := HQe.out.c2
  go_wp2_with fail
  refine (L.put l a cap x _ HS6.out.et HE.out HSm.out HSx.out).mono ?_
  rintro e w7 ⟨a1, cap1, er1, rfl, hE1, hEr1, hb⟩
  have HS7 := Lib.hid (HS6.out.next hb)
  replace HE := Lib.hid (HE.out.below hb)
  replace HQe := Lib.hid (HQe.out.below hb)
  have HE1 := Lib.hid hE1
  have HEr1 := Lib.hid hEr1
  clear hE1 hEr1
  clear hb
  clear e0 e1 e2 hw0 hN
  go_wp2_with fail
  refine (L.drop l a cap p _ HS7.out.et HE.out HSm.out (by have := HZs.out; omega)).mono ?_
  rintro e w8 ⟨a2, cap2, er2, rfl, hE2, hEr2, hb⟩
  have HS8 := Lib.hid (HS7.out.next hb)
  replace HE := Lib.hid (HE.out.below hb)
  replace HQe := Lib.hid (HQe.out.below hb)
  replace HE1 := Lib.hid (HE1.out.below hb)
  replace HEr1 := Lib.hid (HEr1.out.below hb)
  have HE2 := Lib.hid hE2
  have HEr2 := Lib.hid hEr2
  clear hE2 hEr2
  clear hb
  go_wp2_with fail
  refine (L.find l a cap p _ HS8.out.et HE.out HSm.out (by have := HZs.out; omega)).mono ?_
  rintro e w9 ⟨rfl, hb⟩
  have HS9 := Lib.hid (HS8.out.next hb)
  replace HE := Lib.hid (HE.out.below hb)
  replace HQe := Lib.hid (HQe.out.below hb)
  replace HE1 := Lib.hid (HE1.out.below hb)
  replace HEr1 := Lib.hid (HEr1.out.below hb)
  replace HE2 := Lib.hid (HE2.out.below hb)
  replace HEr2 := Lib.hid (HEr2.out.below hb)
  clear hb
  obtain ⟨f, hf⟩ : ∃ f, fdV l p.data.toList = f := ⟨_, rfl⟩
  rw [hf]
  have HF := Lib.hid hf
  clear hf
  have hb : Below w9.heap.size w9 (w9.alloc (.cells #[.string f.1.1, .int .i64 f.1.2.1, .string f.1.2.2] 38)) := (Below.refl _ _).alloc (Nat.le_refl _) _
  have hq := enAt_new w9 f.1.1 f.1.2.1 f.1.2.2
  obtain ⟨w10, hw10⟩ : ∃ w10, w9.alloc (.cells #[.string f.1.1, .int .i64 f.1.2.1, .string f.1.2.2] 38) = w10 := ⟨_, rfl⟩
  obtain ⟨M10, hM10⟩ : ∃ M10, w9.heap.size = M10 := ⟨_, rfl⟩
  rw [hw10] at hb hq
  rw [hM10] at hq
  have HS10 := Lib.hid (HS9.out.next hb)
  replace HE := Lib.hid (HE.out.below hb)
  replace HQe := Lib.hid (HQe.out.below hb)
  replace HE1 := Lib.hid (HE1.out.below hb)
  replace HEr1 := Lib.hid (HEr1.out.below hb)
  replace HE2 := Lib.hid (HE2.out.below hb)
  replace HEr2 := Lib.hid (HEr2.out.below hb)
  have HQf := Lib.hid hq
  clear hb hq
  rw [HV1.out] at HE1 HEr1 ⊢
  rw [HV2.out] at HE2 HEr2 ⊢
  rw [HV3.out] at HF
  have hf1 : decide (f.1 = ((⟨#[]⟩, 0, ⟨#[]⟩) : Ent)) = true := by rw [← HF.out]; rfl
  have hf2 : f.2 = false := by rw [← HF.out]
  obtain ⟨fe, fb⟩ := f
  simp only at hf1 hf2
  subst hf2
  go_wp2_with fail
  refine (code_er _ _ _ HEr1.out HS10.out.et).mono ?_
  rintro e w11 ⟨rfl, hb⟩
  have HS11 := Lib.hid (HS10.out.next hb)
  replace HE := Lib.hid (HE.out.below hb)
  replace HQf := Lib.hid (HQf.out.below hb)
  replace HEr2 := Lib.hid (HEr2.out.below hb)
  clear hb
  go_wp2_with fail
  refine (code_er _ _ _ HEr2.out HS11.out.et).mono ?_
  rintro e w12 ⟨rfl, hb⟩
  have HS12 := Lib.hid (HS11.out.next hb)
  replace HE := Lib.hid (HE.out.below hb)
  replace HQf := Lib.hid (HQf.out.below hb)
  clear hb
  have f0 := HQf.out.c0
  have f1 := HQf.out.c1
  have f2 := HQf.out.c2
  go_wp2_with fail
  refine (L.below l a cap p _ HS12.out.et HE.out HSm.out (by have := HZs.out; omega)).mono ?_
  rintro e w13 ⟨a5, cap5, rfl, _, hb⟩
  have HS13 := Lib.hid (HS12.out.next hb)
  clear hb
  rw [HV4.out]
  go_wp2
  go_ret
  exact ⟨by first | rfl | simp, HS13.out.below⟩
end Go.Proofs.YtflomllfehoedaaDoor
