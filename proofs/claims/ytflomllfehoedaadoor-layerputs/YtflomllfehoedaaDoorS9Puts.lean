/-
  The law LayerPuts walked over Layer9: for every list of entries, entry and text it returns true and changes nothing that was there. Conditions: package layer answers as Layer9 says; the list lies in memory; errorType holds error's type.
-/
import Derived.Test.YtflomllfehoedaaDoorPk7
import Derived.Test.YtflomllfehoedaaDoorS9Grows
namespace Go.Proofs.YtflomllfehoedaaDoor
open Go.RowKit

theorem pt_zero {l : List Ent} {x : Ent} (h : (ptV l x).1 = 0) : RightL l ∧ rE x = true ∧ RightL (wth l x) ∧ ptV l x = (0, wth l x) := by
  unfold ptV at h ⊢
  split at h
  · rename_i h1
    rw [if_pos h1]
    split at h
    · simp at h
    · rename_i h2
      rw [if_neg h2]
      split at h
      · rename_i h3
        rw [if_pos h3]
        exact ⟨h1.1, h1.2, h3, rfl⟩
      · simp at h
  · simp at h
theorem pt_bad {l : List Ent} {x : Ent} (h : (ptV l x).1 ≠ 0) : (ptV l x).2 = [] := by
  unfold ptV at h ⊢
  split
  · split
    · rfl
    · split
      · simp_all
      · rfl
  · rfl
theorem dp_zero {l : List Ent} {p : List UInt8} (h : (dpV l p).1 = 0) : RightL l ∧ (∃ x, fnd l p = some x) ∧ RightL (wout l p) ∧ dpV l p = (0, wout l p) := by
  unfold dpV at h ⊢
  split at h
  · rename_i h1
    rw [if_pos h1]
    split at h
    · simp at h
    · rename_i h2
      rw [if_neg h2]
      split at h
      · rename_i h3
        rw [if_pos h3]
        exact ⟨h1, Option.ne_none_iff_exists'.1 h2, h3, rfl⟩
      · simp at h
  · simp at h
theorem dp_bad {l : List Ent} {p : List UInt8} (h : (dpV l p).1 ≠ 0) : (dpV l p).2 = [] := by
  unfold dpV at h ⊢
  split
  · split
    · rfl
    · split
      · simp_all
      · rfl
  · rfl
theorem fdV_wth {l : List Ent} {x : Ent} (h : RightL l) (hw : RightL (wth l x)) {p : List UInt8} (hp : p ≠ pl x) : fdV (wth l x) p = fdV l p := by
  unfold fdV
  rw [if_pos h, if_pos hw, fnd_wth h.2.2.1, if_neg hp]
theorem fdV_put {l : List Ent} {x : Ent} (hw : RightL (wth l x)) : fdV (wth l x) (pl x) = (x, true) := fdV_mem hw (mem_wth.2 (.inl rfl))
attribute [local go_sem ↓] eqw_en new_en
attribute [local go_sem] isEv_agg evEq_agg eta_ent
set_option maxRecDepth 10000 in
set_option maxHeartbeats 4000000 in
theorem puts_bad (L : Layer9) (l : List Ent) (a : Option Addr) (cap : Nat) (x : Ent) (p : ByteArray) (W : World) (hg : EtLaid W) (h : Ents W a cap l) (hbad : ¬ SizeOK l ∨ (SizeOK l ∧ ¬ (x.1.size ≤ 100 ∧ x.2.2.size ≤ 600 ∧ p.size ≤ 100))) : Calls Tryd.prog 4 #[.slice a l.length cap, enV x, .string p] W fun e w' => e = .returned (.bool true) ∧ Below W.heap.size W w' := by
  have HS0 := Lib.hid (st_self hg)
  obtain ⟨w0, hw0⟩ : ∃ w0, W.alloc (.cells #[.string x.1, .int .i64 x.2.1, .string x.2.2] 38) = w0 := ⟨_, rfl⟩
  obtain ⟨N, hN⟩ : ∃ N, W.heap.size = N := ⟨_, rfl⟩
  have hb : Below W.heap.size W w0 := by rw [← hw0]; exact (Below.refl _ _).alloc (Nat.le_refl _) _
  have HQe := Lib.hid (show EnAt w0 N x.1 x.2.1 x.2.2 by rw [← hw0, ← hN]; exact enAt_new _ _ _ _)
  replace HS0 := Lib.hid (HS0.out.next hb)
  have HE := Lib.hid (h.below hb)
  clear hg h hb
  rcases hbad with hz | ⟨hz, hs⟩
  · have hZ1 : (if SizeOK l then (1 : Int) else 0) = 0 := if_neg hz
    clear hz
    go_enter Tryd.func4, Tryd.ntmps4
    go_wp2_with fail
    refine (awake9 L _ HS0.out.et).mono ?_
    rintro e w1 ⟨rfl, hb⟩
    have HS1 := Lib.hid (HS0.out.next hb)
    replace HE := Lib.hid (HE.out.below hb)
    replace HQe := Lib.hid (HQe.out.below hb)
    clear hb
    go_wp2_with fail
    refine (size9 l a cap _ HE.out).mono ?_
    rintro e w9 ⟨rfl, rfl⟩
    rw [hZ1]
    go_wp2_with fail
    refine (awake9 L _ HS1.out.et).mono ?_
    rintro e w2 ⟨rfl, hb⟩
    have HS2 := Lib.hid (HS1.out.next hb)
    clear hb
    go_wp2
    go_ret
    exact ⟨by first | rfl | simp, HS2.out.below⟩
  · have hZ1 : (if SizeOK l then (1 : Int) else 0) = 1 := if_pos hz
    clear hz
    by_cases h1 : (100 : Int) < (x.1.size : Int)
    · clear hs
      go_enter Tryd.func4, Tryd.ntmps4
      go_wp2_with fail
      refine (awake9 L _ HS0.out.et).mono ?_
      rintro e w1 ⟨rfl, hb⟩
      have HS1 := Lib.hid (HS0.out.next hb)
      replace HE := Lib.hid (HE.out.below hb)
      replace HQe := Lib.hid (HQe.out.below hb)
      clear hb
      have e0 := HQe.out.c0
      have e1 := HQe.out.c1
      have e2 := HQe.out.c2
      go_wp2_with fail
      refine (size9 l a cap _ HE.out).mono ?_
      rintro e w9 ⟨rfl, rfl⟩
      rw [hZ1]
      go_wp2_with fail
      refine (awake9 L _ HS1.out.et).mono ?_
      rintro e w2 ⟨rfl, hb⟩
      have HS2 := Lib.hid (HS1.out.next hb)
      clear hb
      go_wp2
      go_ret
      exact ⟨by first | rfl | simp, HS2.out.below⟩
    · by_cases h2 : (600 : Int) < (x.2.2.size : Int)
      · clear hs
        go_enter Tryd.func4, Tryd.ntmps4
        go_wp2_with fail
        refine (awake9 L _ HS0.out.et).mono ?_
        rintro e w1 ⟨rfl, hb⟩
        have HS1 := Lib.hid (HS0.out.next hb)
        replace HE := Lib.hid (HE.out.below hb)
        replace HQe := Lib.hid (HQe.out.below hb)
        clear hb
        have e0 := HQe.out.c0
        have e1 := HQe.out.c1
        have e2 := HQe.out.c2
        go_wp2_with fail
        refine (size9 l a cap _ HE.out).mono ?_
        rintro e w9 ⟨rfl, rfl⟩
        rw [hZ1]
        go_wp2_with fail
        refine (awake9 L _ HS1.out.et).mono ?_
        rintro e w2 ⟨rfl, hb⟩
        have HS2 := Lib.hid (HS1.out.next hb)
        clear hb
        go_wp2
        go_ret
        exact ⟨by first | rfl | simp, HS2.out.below⟩
      · have h3 : (100 : Int) < (p.size : Int) := by omega
        clear hs
        go_enter Tryd.func4, Tryd.ntmps4
        go_wp2_with fail
        refine (awake9 L _ HS0.out.et).mono ?_
        rintro e w1 ⟨rfl, hb⟩
        have HS1 := Lib.hid (HS0.out.next hb)
        replace HE := Lib.hid (HE.out.below hb)
        replace HQe := Lib.hid (HQe.out.below hb)
        clear hb
        have e0 := HQe.out.c0
        have e1 := HQe.out.c1
        have e2 := HQe.out.c2
        go_wp2_with fail
        refine (size9 l a cap _ HE.out).mono ?_
        rintro e w9 ⟨rfl, rfl⟩
        rw [hZ1]
        go_wp2_with fail
        refine (awake9 L _ HS1.out.et).mono ?_
        rintro e w2 ⟨rfl, hb⟩
        have HS2 := Lib.hid (HS1.out.next hb)
        clear hb
        go_wp2
        go_ret
        exact ⟨by first | rfl | simp, HS2.out.below⟩
set_option maxRecDepth 10000 in
set_option maxHeartbeats 8000000 in
theorem puts_good (L : Layer9) (l : List Ent) (a : Option Addr) (cap : Nat) (x : Ent) (p : ByteArray) (W : World) (hg : EtLaid W) (h : Ents W a cap l) (hz : SizeOK l) (hs : x.1.size ≤ 100 ∧ x.2.2.size ≤ 600 ∧ p.size ≤ 100) : Calls Tryd.prog 4 #[.slice a l.length cap, enV x, .string p] W fun e w' => e = .returned (.bool true) ∧ Below W.heap.size W w' := by
  have HS0 := Lib.hid (st_self hg)
  obtain ⟨w0, hw0⟩ : ∃ w0, W.alloc (.cells #[.string x.1, .int .i64 x.2.1, .string x.2.2] 38) = w0 := ⟨_, rfl⟩
  obtain ⟨N, hN⟩ : ∃ N, W.heap.size = N := ⟨_, rfl⟩
  have hb : Below W.heap.size W w0 := by rw [← hw0]; exact (Below.refl _ _).alloc (Nat.le_refl _) _
  have HQe := Lib.hid (show EnAt w0 N x.1 x.2.1 x.2.2 by rw [← hw0, ← hN]; exact enAt_new _ _ _ _)
  replace HS0 := Lib.hid (HS0.out.next hb)
  have HE := Lib.hid (h.below hb)
  clear hg h hb
  have HSm := Lib.hid (sm_size hz)
  have hZ1 : (if SizeOK l then (1 : Int) else 0) = 1 := if_pos hz
  have HZs := Lib.hid hs
  have h1 : ¬ (100 : Int) < (x.1.size : Int) := by omega
  have h2 : ¬ (600 : Int) < (x.2.2.size : Int) := by omega
  have h3 : ¬ (100 : Int) < (p.size : Int) := by omega
  have HSx := Lib.hid (show Sm [x] from ⟨by simp, fun e he => by
    obtain rfl : e = x := by simpa using he
    omega⟩)
  clear hz hs
  go_enter Tryd.func4, Tryd.ntmps4
  go_wp2_with fail
  refine (awake9 L _ HS0.out.et).mono ?_
  rintro e w1 ⟨rfl, hb⟩
  have HS1 := Lib.hid (HS0.out.next hb)
  replace HE := Lib.hid (HE.out.below hb)
  replace HQe := Lib.hid (HQe.out.below hb)
  clear hb
  have e0 := HQe.out.c0
  have e1 := HQe.out.c1
  have e2 := HQe.out.c2
  go_wp2_with fail
  refine (size9 l a cap _ HE.out).mono ?_
  rintro e w9 ⟨rfl, rfl⟩
  rw [hZ1]
  go_wp2_with fail
  refine (L.put l a cap x _ HS1.out.et HE.out HSm.out HSx.out).mono ?_
  rintro e w2 ⟨a3, cap3, er, rfl, hE3, hEr, hb⟩
  have HS2 := Lib.hid (HS1.out.next hb)
  replace HE := Lib.hid (HE.out.below hb)
  replace HQe := Lib.hid (HQe.out.below hb)
  have HE3 := Lib.hid hE3
  have HEr := Lib.hid hEr
  clear hE3 hEr
  clear hb
  clear e0 e1 e2 hw0 hN
  obtain ⟨d, hd⟩ : ∃ d, ptV l x = d := ⟨_, rfl⟩
  rw [hd] at HE3 HEr ⊢
  by_cases hd0 : d.1 = 0
  · obtain ⟨k1, k2, k3, k4⟩ := pt_zero (hd ▸ hd0)
    have hd4 : d = (0, wth l x) := hd.symm.trans k4
    subst hd4
    have HR := Lib.hid k1
    have HRw := Lib.hid k3
    clear hd k1 k2 k3 k4 hd0
    go_wp2_with fail
    refine (code_er _ _ _ HEr.out HS2.out.et).mono ?_
    rintro e w3 ⟨rfl, hb⟩
    have HS3 := Lib.hid (HS2.out.next hb)
    replace HE := Lib.hid (HE.out.below hb)
    replace HE3 := Lib.hid (HE3.out.below hb)
    replace HQe := Lib.hid (HQe.out.below hb)
    clear hb
    have e0 := HQe.out.c0
    have e1 := HQe.out.c1
    have e2 := HQe.out.c2
    go_wp2_with fail
    refine (L.find (wth l x) a3 cap3 x.1 _ HS3.out.et HE3.out (sm_right HRw.out) (by have := HZs.out; omega)).mono ?_
    rintro e w4 ⟨rfl, hb⟩
    have HS4 := Lib.hid (HS3.out.next hb)
    replace HE := Lib.hid (HE.out.below hb)
    replace HE3 := Lib.hid (HE3.out.below hb)
    replace HQe := Lib.hid (HQe.out.below hb)
    clear hb
    rw [show fdV (wth l x) x.1.data.toList = (x, true) from fdV_put HRw.out]
    clear e0 e1 e2
    have hb : Below w4.heap.size w4 (w4.alloc (.cells #[.string x.1, .int .i64 x.2.1, .string x.2.2] 38)) := (Below.refl _ _).alloc (Nat.le_refl _) _
    have hq := enAt_new w4 x.1 x.2.1 x.2.2
    obtain ⟨w5, hw5⟩ : ∃ w5, w4.alloc (.cells #[.string x.1, .int .i64 x.2.1, .string x.2.2] 38) = w5 := ⟨_, rfl⟩
    obtain ⟨M5, hM5⟩ : ∃ M5, w4.heap.size = M5 := ⟨_, rfl⟩
    rw [hw5] at hb hq
    rw [hM5] at hq
    have HS5 := Lib.hid (HS4.out.next hb)
    replace HE := Lib.hid (HE.out.below hb)
    replace HE3 := Lib.hid (HE3.out.below hb)
    replace HQe := Lib.hid (HQe.out.below hb)
    have HQy := Lib.hid hq
    clear hb hq
    go_wp2_with fail
    refine (L.find (wth l x) a3 cap3 p _ HS5.out.et HE3.out (sm_right HRw.out) (by have := HZs.out; omega)).mono ?_
    rintro e w6 ⟨rfl, hb⟩
    have HS6 := Lib.hid (HS5.out.next hb)
    replace HE := Lib.hid (HE.out.below hb)
    replace HE3 := Lib.hid (HE3.out.below hb)
    replace HQe := Lib.hid (HQe.out.below hb)
    replace HQy := Lib.hid (HQy.out.below hb)
    clear hb
    obtain ⟨f1, hf1⟩ : ∃ f1, fdV (wth l x) p.data.toList = f1 := ⟨_, rfl⟩
    rw [hf1]
    have HF1 := Lib.hid hf1
    clear hf1 hw5 hM5
    have hb : Below w6.heap.size w6 (w6.alloc (.cells #[.string f1.1.1, .int .i64 f1.1.2.1, .string f1.1.2.2] 38)) := (Below.refl _ _).alloc (Nat.le_refl _) _
    have hq := enAt_new w6 f1.1.1 f1.1.2.1 f1.1.2.2
    obtain ⟨w7, hw7⟩ : ∃ w7, w6.alloc (.cells #[.string f1.1.1, .int .i64 f1.1.2.1, .string f1.1.2.2] 38) = w7 := ⟨_, rfl⟩
    obtain ⟨M7, hM7⟩ : ∃ M7, w6.heap.size = M7 := ⟨_, rfl⟩
    rw [hw7] at hb hq
    rw [hM7] at hq
    have HS7 := Lib.hid (HS6.out.next hb)
    replace HE := Lib.hid (HE.out.below hb)
    replace HE3 := Lib.hid (HE3.out.below hb)
    replace HQe := Lib.hid (HQe.out.below hb)
    replace HQy := Lib.hid (HQy.out.below hb)
    have HQa := Lib.hid hq
    clear hb hq
    go_wp2_with fail
    refine (L.find l a cap p _ HS7.out.et HE.out HSm.out (by have := HZs.out; omega)).mono ?_
    rintro e w8 ⟨rfl, hb⟩
    have HS8 := Lib.hid (HS7.out.next hb)
    replace HE := Lib.hid (HE.out.below hb)
    replace HE3 := Lib.hid (HE3.out.below hb)
    replace HQe := Lib.hid (HQe.out.below hb)
    replace HQy := Lib.hid (HQy.out.below hb)
    replace HQa := Lib.hid (HQa.out.below hb)
    clear hb
    obtain ⟨f2, hf2⟩ : ∃ f2, fdV l p.data.toList = f2 := ⟨_, rfl⟩
    rw [hf2]
    have HF2 := Lib.hid hf2
    clear hf2 hw7 hM7
    have hb : Below w8.heap.size w8 (w8.alloc (.cells #[.string f2.1.1, .int .i64 f2.1.2.1, .string f2.1.2.2] 38)) := (Below.refl _ _).alloc (Nat.le_refl _) _
    have hq := enAt_new w8 f2.1.1 f2.1.2.1 f2.1.2.2
    obtain ⟨w9, hw9⟩ : ∃ w9, w8.alloc (.cells #[.string f2.1.1, .int .i64 f2.1.2.1, .string f2.1.2.2] 38) = w9 := ⟨_, rfl⟩
    obtain ⟨M9, hM9⟩ : ∃ M9, w8.heap.size = M9 := ⟨_, rfl⟩
    rw [hw9] at hb hq
    rw [hM9] at hq
    have HS9 := Lib.hid (HS8.out.next hb)
    replace HE := Lib.hid (HE.out.below hb)
    replace HE3 := Lib.hid (HE3.out.below hb)
    replace HQe := Lib.hid (HQe.out.below hb)
    replace HQy := Lib.hid (HQy.out.below hb)
    replace HQa := Lib.hid (HQa.out.below hb)
    have HQb := Lib.hid hq
    clear hb hq
    have e0 := HQe.out.c0
    have e1 := HQe.out.c1
    have e2 := HQe.out.c2
    have y0 := HQy.out.c0
    have y1 := HQy.out.c1
    have y2 := HQy.out.c2
    have hxx : decide (x = x) = true := decide_eq_true rfl
    go_wp2_with fail
    refine (L.right (wth l x) a3 cap3 _ HS9.out.et HE3.out (sm_right HRw.out)).mono ?_
    rintro e w10 ⟨rfl, hb⟩
    have HS10 := Lib.hid (HS9.out.next hb)
    replace HE := Lib.hid (HE.out.below hb)
    replace HQe := Lib.hid (HQe.out.below hb)
    replace HQa := Lib.hid (HQa.out.below hb)
    replace HQb := Lib.hid (HQb.out.below hb)
    clear hb
    rw [decide_eq_true HRw.out]
    clear e0 e1 e2 y0 y1 y2 hw9 hM9
    have e0 := HQe.out.c0
    have e1 := HQe.out.c1
    have e2 := HQe.out.c2
    have a0 := HQa.out.c0
    have a1 := HQa.out.c1
    have a2 := HQa.out.c2
    have b0 := HQb.out.c0
    have b1 := HQb.out.c1
    have b2 := HQb.out.c2
    by_cases hp : p.data.toList = pl x
    · have gp : (p.toList == x.1.toList) = true := by rw [Lib.toList_data, Lib.toList_data, beq_iff_eq]; exact hp
      clear hp
      go_wp2_with fail
      refine (L.drop l a cap p _ HS10.out.et HE.out HSm.out (by have := HZs.out; omega)).mono ?_
      rintro e w11 ⟨a7, cap7, er7, rfl, hE7, hEr7, hb⟩
      have HS11 := Lib.hid (HS10.out.next hb)
      replace HE := Lib.hid (HE.out.below hb)
      have HE7 := Lib.hid hE7
      have HEr7 := Lib.hid hEr7
      clear hE7 hEr7
      clear hb
      obtain ⟨d, hd⟩ : ∃ d, dpV l p.data.toList = d := ⟨_, rfl⟩
      rw [hd] at HE7 HEr7 ⊢
      have HD := Lib.hid hd
      have HSd := Lib.hid (show Sm d.2 by
        by_cases h0 : d.1 = 0
        · obtain ⟨_, _, h3, h4⟩ := dp_zero (hd ▸ h0)
          rw [← hd, h4]
          exact sm_right h3
        · rw [← hd, dp_bad (hd ▸ h0)]
          exact sm_nil)
      clear hd
      go_wp2_with fail
      refine (L.find l a cap p _ HS11.out.et HE.out HSm.out (by have := HZs.out; omega)).mono ?_
      rintro e w12 ⟨rfl, hb⟩
      have HS12 := Lib.hid (HS11.out.next hb)
      replace HE := Lib.hid (HE.out.below hb)
      replace HE7 := Lib.hid (HE7.out.below hb)
      replace HEr7 := Lib.hid (HEr7.out.below hb)
      clear hb
      obtain ⟨f4, hf4⟩ : ∃ f4, fdV l p.data.toList = f4 := ⟨_, rfl⟩
      rw [hf4]
      have HF4 := Lib.hid hf4
      clear hf4
      have hb : Below w12.heap.size w12 (w12.alloc (.cells #[.string f4.1.1, .int .i64 f4.1.2.1, .string f4.1.2.2] 38)) := (Below.refl _ _).alloc (Nat.le_refl _) _
      have hq := enAt_new w12 f4.1.1 f4.1.2.1 f4.1.2.2
      obtain ⟨w13, hw13⟩ : ∃ w13, w12.alloc (.cells #[.string f4.1.1, .int .i64 f4.1.2.1, .string f4.1.2.2] 38) = w13 := ⟨_, rfl⟩
      obtain ⟨M13, hM13⟩ : ∃ M13, w12.heap.size = M13 := ⟨_, rfl⟩
      rw [hw13] at hb hq
      rw [hM13] at hq
      have HS13 := Lib.hid (HS12.out.next hb)
      replace HE := Lib.hid (HE.out.below hb)
      replace HE7 := Lib.hid (HE7.out.below hb)
      replace HEr7 := Lib.hid (HEr7.out.below hb)
      have HQf4 := Lib.hid hq
      clear hb hq
      go_wp2_with fail
      refine (L.find d.2 a7 cap7 p _ HS13.out.et HE7.out HSd.out (by have := HZs.out; omega)).mono ?_
      rintro e w14 ⟨rfl, hb⟩
      have HS14 := Lib.hid (HS13.out.next hb)
      replace HE := Lib.hid (HE.out.below hb)
      replace HE7 := Lib.hid (HE7.out.below hb)
      replace HEr7 := Lib.hid (HEr7.out.below hb)
      clear hb
      obtain ⟨f5, hf5⟩ : ∃ f5, fdV d.2 p.data.toList = f5 := ⟨_, rfl⟩
      rw [hf5]
      have HF5 := Lib.hid hf5
      clear hf5 hw13 hM13
      have hb : Below w14.heap.size w14 (w14.alloc (.cells #[.string f5.1.1, .int .i64 f5.1.2.1, .string f5.1.2.2] 38)) := (Below.refl _ _).alloc (Nat.le_refl _) _
      have hq := enAt_new w14 f5.1.1 f5.1.2.1 f5.1.2.2
      obtain ⟨w15, hw15⟩ : ∃ w15, w14.alloc (.cells #[.string f5.1.1, .int .i64 f5.1.2.1, .string f5.1.2.2] 38) = w15 := ⟨_, rfl⟩
      obtain ⟨M15, hM15⟩ : ∃ M15, w14.heap.size = M15 := ⟨_, rfl⟩
      rw [hw15] at hb hq
      rw [hM15] at hq
      have HS15 := Lib.hid (HS14.out.next hb)
      replace HE := Lib.hid (HE.out.below hb)
      replace HE7 := Lib.hid (HE7.out.below hb)
      replace HEr7 := Lib.hid (HEr7.out.below hb)
      have HQf5 := Lib.hid hq
      clear hb hq
      by_cases hd0 : d.1 = 0
      · obtain ⟨k1, ⟨y, k2⟩, k3, k4⟩ := dp_zero (HD.out ▸ hd0)
        have hd4 : d = (0, wout l p.data.toList) := HD.out.symm.trans k4
        have hlen := len_wout k1.2.2.1 k2
        have g4 : f4.2 = true := by rw [← HF4.out]; unfold fdV; rw [if_pos k1, k2]
        have g5 : f5.2 = false := by rw [← HF5.out, hd4]; unfold fdV; rw [if_pos k3, fnd_wout]
        have HRd := Lib.hid (show decide (RightL d.2) = true by rw [hd4]; exact decide_eq_true k3)
        have hsub : IntKind.i64.wrap ((l.length : Int) - 1) = (d.2.length : Int) := by
          rw [hd4]
          show IntKind.i64.wrap ((l.length : Int) - 1) = ((wout l p.data.toList).length : Int)
          rw [show (l.length : Int) - 1 = ((wout l p.data.toList).length : Int) by omega]
          exact IntWalk.i64_in _ (by have := k1.1; omega)
        have HEr8 : Hid (Er w15 0 er7) := by have := HEr7.out; rw [hd0] at this; exact this
        have g4' : f4.2 = true := g4
        obtain ⟨v4, b4⟩ := f4
        obtain ⟨v5, b5⟩ := f5
        simp only at g4 g5
        subst g4 g5
        clear k1 k2 k3 k4 hd4 hlen g4' hd0
        go_wp2_with fail
        refine (code_er _ _ _ HEr8.out HS15.out.et).mono ?_
        rintro e w16 ⟨rfl, hb⟩
        have HS16 := Lib.hid (HS15.out.next hb)
        replace HE7 := Lib.hid (HE7.out.below hb)
        clear hb
        go_wp2_with fail
        refine (L.right d.2 a7 cap7 _ HS16.out.et HE7.out HSd.out).mono ?_
        rintro e w17 ⟨rfl, hb⟩
        have HS17 := Lib.hid (HS16.out.next hb)
        clear hb
        rw [HRd.out]
        go_wp2
        go_ret
        exact ⟨by first | rfl | simp, HS17.out.below⟩
      · have hd2 : d.2 = [] := by rw [← HD.out]; exact dp_bad (HD.out ▸ hd0)
        have hd1 : (d.1 == 0) = false := beq_eq_false_iff_ne.2 hd0
        have hd3 : (d.1 != 0) = true := by rw [bne, hd1]; rfl
        rw [hd2] at HE7 ⊢
        go_wp2_with fail
        refine (code_er _ _ _ HEr7.out HS15.out.et).mono ?_
        rintro e w16 ⟨rfl, hb⟩
        have HS16 := Lib.hid (HS15.out.next hb)
        clear hb
        go_wp2
        go_ret
        exact ⟨by first | rfl | simp, HS16.out.below⟩
    · have gp : (p.toList == x.1.toList) = false := by rw [Lib.toList_data, Lib.toList_data, beq_eq_false_iff_ne]; exact hp
      obtain rfl : f1 = f2 := by rw [← HF1.out, ← HF2.out, fdV_wth HR.out HRw.out hp]
      have hff : decide (f1.1 = f1.1) = true := decide_eq_true rfl
      clear hp
      go_wp2_with fail
      refine (L.drop l a cap p _ HS10.out.et HE.out HSm.out (by have := HZs.out; omega)).mono ?_
      rintro e w11 ⟨a7, cap7, er7, rfl, hE7, hEr7, hb⟩
      have HS11 := Lib.hid (HS10.out.next hb)
      replace HE := Lib.hid (HE.out.below hb)
      have HE7 := Lib.hid hE7
      have HEr7 := Lib.hid hEr7
      clear hE7 hEr7
      clear hb
      obtain ⟨d, hd⟩ : ∃ d, dpV l p.data.toList = d := ⟨_, rfl⟩
      rw [hd] at HE7 HEr7 ⊢
      have HD := Lib.hid hd
      have HSd := Lib.hid (show Sm d.2 by
        by_cases h0 : d.1 = 0
        · obtain ⟨_, _, h3, h4⟩ := dp_zero (hd ▸ h0)
          rw [← hd, h4]
          exact sm_right h3
        · rw [← hd, dp_bad (hd ▸ h0)]
          exact sm_nil)
      clear hd
      go_wp2_with fail
      refine (L.find l a cap p _ HS11.out.et HE.out HSm.out (by have := HZs.out; omega)).mono ?_
      rintro e w12 ⟨rfl, hb⟩
      have HS12 := Lib.hid (HS11.out.next hb)
      replace HE := Lib.hid (HE.out.below hb)
      replace HE7 := Lib.hid (HE7.out.below hb)
      replace HEr7 := Lib.hid (HEr7.out.below hb)
      clear hb
      obtain ⟨f4, hf4⟩ : ∃ f4, fdV l p.data.toList = f4 := ⟨_, rfl⟩
      rw [hf4]
      have HF4 := Lib.hid hf4
      clear hf4
      have hb : Below w12.heap.size w12 (w12.alloc (.cells #[.string f4.1.1, .int .i64 f4.1.2.1, .string f4.1.2.2] 38)) := (Below.refl _ _).alloc (Nat.le_refl _) _
      have hq := enAt_new w12 f4.1.1 f4.1.2.1 f4.1.2.2
      obtain ⟨w13, hw13⟩ : ∃ w13, w12.alloc (.cells #[.string f4.1.1, .int .i64 f4.1.2.1, .string f4.1.2.2] 38) = w13 := ⟨_, rfl⟩
      obtain ⟨M13, hM13⟩ : ∃ M13, w12.heap.size = M13 := ⟨_, rfl⟩
      rw [hw13] at hb hq
      rw [hM13] at hq
      have HS13 := Lib.hid (HS12.out.next hb)
      replace HE := Lib.hid (HE.out.below hb)
      replace HE7 := Lib.hid (HE7.out.below hb)
      replace HEr7 := Lib.hid (HEr7.out.below hb)
      have HQf4 := Lib.hid hq
      clear hb hq
      go_wp2_with fail
      refine (L.find d.2 a7 cap7 p _ HS13.out.et HE7.out HSd.out (by have := HZs.out; omega)).mono ?_
      rintro e w14 ⟨rfl, hb⟩
      have HS14 := Lib.hid (HS13.out.next hb)
      replace HE := Lib.hid (HE.out.below hb)
      replace HE7 := Lib.hid (HE7.out.below hb)
      replace HEr7 := Lib.hid (HEr7.out.below hb)
      clear hb
      obtain ⟨f5, hf5⟩ : ∃ f5, fdV d.2 p.data.toList = f5 := ⟨_, rfl⟩
      rw [hf5]
      have HF5 := Lib.hid hf5
      clear hf5 hw13 hM13
      have hb : Below w14.heap.size w14 (w14.alloc (.cells #[.string f5.1.1, .int .i64 f5.1.2.1, .string f5.1.2.2] 38)) := (Below.refl _ _).alloc (Nat.le_refl _) _
      have hq := enAt_new w14 f5.1.1 f5.1.2.1 f5.1.2.2
      obtain ⟨w15, hw15⟩ : ∃ w15, w14.alloc (.cells #[.string f5.1.1, .int .i64 f5.1.2.1, .string f5.1.2.2] 38) = w15 := ⟨_, rfl⟩
      obtain ⟨M15, hM15⟩ : ∃ M15, w14.heap.size = M15 := ⟨_, rfl⟩
      rw [hw15] at hb hq
      rw [hM15] at hq
      have HS15 := Lib.hid (HS14.out.next hb)
      replace HE := Lib.hid (HE.out.below hb)
      replace HE7 := Lib.hid (HE7.out.below hb)
      replace HEr7 := Lib.hid (HEr7.out.below hb)
      have HQf5 := Lib.hid hq
      clear hb hq
      by_cases hd0 : d.1 = 0
      · obtain ⟨k1, ⟨y, k2⟩, k3, k4⟩ := dp_zero (HD.out ▸ hd0)
        have hd4 : d = (0, wout l p.data.toList) := HD.out.symm.trans k4
        have hlen := len_wout k1.2.2.1 k2
        have g4 : f4.2 = true := by rw [← HF4.out]; unfold fdV; rw [if_pos k1, k2]
        have g5 : f5.2 = false := by rw [← HF5.out, hd4]; unfold fdV; rw [if_pos k3, fnd_wout]
        have HRd := Lib.hid (show decide (RightL d.2) = true by rw [hd4]; exact decide_eq_true k3)
        have hsub : IntKind.i64.wrap ((l.length : Int) - 1) = (d.2.length : Int) := by
          rw [hd4]
          show IntKind.i64.wrap ((l.length : Int) - 1) = ((wout l p.data.toList).length : Int)
          rw [show (l.length : Int) - 1 = ((wout l p.data.toList).length : Int) by omega]
          exact IntWalk.i64_in _ (by have := k1.1; omega)
        have HEr8 : Hid (Er w15 0 er7) := by have := HEr7.out; rw [hd0] at this; exact this
        have g4' : f4.2 = true := g4
        obtain ⟨v4, b4⟩ := f4
        obtain ⟨v5, b5⟩ := f5
        simp only at g4 g5
        subst g4 g5
        clear k1 k2 k3 k4 hd4 hlen g4' hd0
        go_wp2_with fail
        refine (code_er _ _ _ HEr8.out HS15.out.et).mono ?_
        rintro e w16 ⟨rfl, hb⟩
        have HS16 := Lib.hid (HS15.out.next hb)
        replace HE7 := Lib.hid (HE7.out.below hb)
        clear hb
        go_wp2_with fail
        refine (L.right d.2 a7 cap7 _ HS16.out.et HE7.out HSd.out).mono ?_
        rintro e w17 ⟨rfl, hb⟩
        have HS17 := Lib.hid (HS16.out.next hb)
        clear hb
        rw [HRd.out]
        go_wp2
        go_ret
        exact ⟨by first | rfl | simp, HS17.out.below⟩
      · have hd2 : d.2 = [] := by rw [← HD.out]; exact dp_bad (HD.out ▸ hd0)
        have hd1 : (d.1 == 0) = false := beq_eq_false_iff_ne.2 hd0
        have hd3 : (d.1 != 0) = true := by rw [bne, hd1]; rfl
        rw [hd2] at HE7 ⊢
        go_wp2_with fail
        refine (code_er _ _ _ HEr7.out HS15.out.et).mono ?_
        rintro e w16 ⟨rfl, hb⟩
        have HS16 := Lib.hid (HS15.out.next hb)
        clear hb
        go_wp2
        go_ret
        exact ⟨by first | rfl | simp, HS16.out.below⟩
  · have hd2 : d.2 = [] := by rw [← hd]; exact pt_bad (hd ▸ hd0)
    have hd1 : (d.1 == 0) = false := beq_eq_false_iff_ne.2 hd0
    rw [hd2] at HE3 ⊢
    clear hd hd2
    go_wp2_with fail
    refine (code_er _ _ _ HEr.out HS2.out.et).mono ?_
    rintro e w3 ⟨rfl, hb⟩
    have HS3 := Lib.hid (HS2.out.next hb)
    replace HE := Lib.hid (HE.out.below hb)
    replace HE3 := Lib.hid (HE3.out.below hb)
    replace HQe := Lib.hid (HQe.out.below hb)
    clear hb
    go_wp2_with fail
    refine (L.drop l a cap p _ HS3.out.et HE.out HSm.out (by have := HZs.out; omega)).mono ?_
    rintro e w4 ⟨a7, cap7, er7, rfl, hE7, hEr7, hb⟩
    have HS4 := Lib.hid (HS3.out.next hb)
    replace HE := Lib.hid (HE.out.below hb)
    have HE7 := Lib.hid hE7
    have HEr7 := Lib.hid hEr7
    clear hE7 hEr7
    clear hb
    obtain ⟨d, hd⟩ : ∃ d, dpV l p.data.toList = d := ⟨_, rfl⟩
    rw [hd] at HE7 HEr7 ⊢
    have HD := Lib.hid hd
    have HSd := Lib.hid (show Sm d.2 by
      by_cases h0 : d.1 = 0
      · obtain ⟨_, _, h3, h4⟩ := dp_zero (hd ▸ h0)
        rw [← hd, h4]
        exact sm_right h3
      · rw [← hd, dp_bad (hd ▸ h0)]
        exact sm_nil)
    clear hd
    go_wp2_with fail
    refine (L.find l a cap p _ HS4.out.et HE.out HSm.out (by have := HZs.out; omega)).mono ?_
    rintro e w5 ⟨rfl, hb⟩
    have HS5 := Lib.hid (HS4.out.next hb)
    replace HE := Lib.hid (HE.out.below hb)
    replace HE7 := Lib.hid (HE7.out.below hb)
    replace HEr7 := Lib.hid (HEr7.out.below hb)
    clear hb
    obtain ⟨f4, hf4⟩ : ∃ f4, fdV l p.data.toList = f4 := ⟨_, rfl⟩
    rw [hf4]
    have HF4 := Lib.hid hf4
    clear hf4
    have hb : Below w5.heap.size w5 (w5.alloc (.cells #[.string f4.1.1, .int .i64 f4.1.2.1, .string f4.1.2.2] 38)) := (Below.refl _ _).alloc (Nat.le_refl _) _
    have hq := enAt_new w5 f4.1.1 f4.1.2.1 f4.1.2.2
    obtain ⟨w6, hw6⟩ : ∃ w6, w5.alloc (.cells #[.string f4.1.1, .int .i64 f4.1.2.1, .string f4.1.2.2] 38) = w6 := ⟨_, rfl⟩
    obtain ⟨M6, hM6⟩ : ∃ M6, w5.heap.size = M6 := ⟨_, rfl⟩
    rw [hw6] at hb hq
    rw [hM6] at hq
    have HS6 := Lib.hid (HS5.out.next hb)
    replace HE := Lib.hid (HE.out.below hb)
    replace HE7 := Lib.hid (HE7.out.below hb)
    replace HEr7 := Lib.hid (HEr7.out.below hb)
    have HQf4 := Lib.hid hq
    clear hb hq
    go_wp2_with fail
    refine (L.find d.2 a7 cap7 p _ HS6.out.et HE7.out HSd.out (by have := HZs.out; omega)).mono ?_
    rintro e w7 ⟨rfl, hb⟩
    have HS7 := Lib.hid (HS6.out.next hb)
    replace HE := Lib.hid (HE.out.below hb)
    replace HE7 := Lib.hid (HE7.out.below hb)
    replace HEr7 := Lib.hid (HEr7.out.below hb)
    clear hb
    obtain ⟨f5, hf5⟩ : ∃ f5, fdV d.2 p.data.toList = f5 := ⟨_, rfl⟩
    rw [hf5]
    have HF5 := Lib.hid hf5
    clear hf5 hw6 hM6
    have hb : Below w7.heap.size w7 (w7.alloc (.cells #[.string f5.1.1, .int .i64 f5.1.2.1, .string f5.1.2.2] 38)) := (Below.refl _ _).alloc (Nat.le_refl _) _
    have hq := enAt_new w7 f5.1.1 f5.1.2.1 f5.1.2.2
    obtain ⟨w8, hw8⟩ : ∃ w8, w7.alloc (.cells #[.string f5.1.1, .int .i64 f5.1.2.1, .string f5.1.2.2] 38) = w8 := ⟨_, rfl⟩
    obtain ⟨M8, hM8⟩ : ∃ M8, w7.heap.size = M8 := ⟨_, rfl⟩
    rw [hw8] at hb hq
    rw [hM8] at hq
    have HS8 := Lib.hid (HS7.out.next hb)
    replace HE := Lib.hid (HE.out.below hb)
    replace HE7 := Lib.hid (HE7.out.below hb)
    replace HEr7 := Lib.hid (HEr7.out.below hb)
    have HQf5 := Lib.hid hq
    clear hb hq
    by_cases hd0 : d.1 = 0
    · obtain ⟨k1, ⟨y, k2⟩, k3, k4⟩ := dp_zero (HD.out ▸ hd0)
      have hd4 : d = (0, wout l p.data.toList) := HD.out.symm.trans k4
      have hlen := len_wout k1.2.2.1 k2
      have g4 : f4.2 = true := by rw [← HF4.out]; unfold fdV; rw [if_pos k1, k2]
      have g5 : f5.2 = false := by rw [← HF5.out, hd4]; unfold fdV; rw [if_pos k3, fnd_wout]
      have HRd := Lib.hid (show decide (RightL d.2) = true by rw [hd4]; exact decide_eq_true k3)
      have hsub : IntKind.i64.wrap ((l.length : Int) - 1) = (d.2.length : Int) := by
        rw [hd4]
        show IntKind.i64.wrap ((l.length : Int) - 1) = ((wout l p.data.toList).length : Int)
        rw [show (l.length : Int) - 1 = ((wout l p.data.toList).length : Int) by omega]
        exact IntWalk.i64_in _ (by have := k1.1; omega)
      have HEr8 : Hid (Er w8 0 er7) := by have := HEr7.out; rw [hd0] at this; exact this
      have g4' : f4.2 = true := g4
      obtain ⟨v4, b4⟩ := f4
      obtain ⟨v5, b5⟩ := f5
      simp only at g4 g5
      subst g4 g5
      clear k1 k2 k3 k4 hd4 hlen g4' hd0
      go_wp2_with fail
      refine (code_er _ _ _ HEr8.out HS8.out.et).mono ?_
      rintro e w9 ⟨rfl, hb⟩
      have HS9 := Lib.hid (HS8.out.next hb)
      replace HE7 := Lib.hid (HE7.out.below hb)
      clear hb
      go_wp2_with fail
      refine (L.right d.2 a7 cap7 _ HS9.out.et HE7.out HSd.out).mono ?_
      rintro e w10 ⟨rfl, hb⟩
      have HS10 := Lib.hid (HS9.out.next hb)
      clear hb
      rw [HRd.out]
      go_wp2
      go_ret
      exact ⟨by first | rfl | simp, HS10.out.below⟩
    · have hd2 : d.2 = [] := by rw [← HD.out]; exact dp_bad (HD.out ▸ hd0)
      have hd1 : (d.1 == 0) = false := beq_eq_false_iff_ne.2 hd0
      have hd3 : (d.1 != 0) = true := by rw [bne, hd1]; rfl
      rw [hd2] at HE7 ⊢
      go_wp2_with fail
      refine (code_er _ _ _ HEr7.out HS8.out.et).mono ?_
      rintro e w9 ⟨rfl, hb⟩
      have HS9 := Lib.hid (HS8.out.next hb)
      clear hb
      go_wp2
      go_ret
      exact ⟨by first | rfl | simp, HS9.out.below⟩
theorem lawPuts (L : Layer9) (l : List Ent) (a : Option Addr) (cap : Nat) (x : Ent) (p : ByteArray) (W : World) (hg : EtLaid W) (h : Ents W a cap l) : Calls Tryd.prog 4 #[.slice a l.length cap, enV x, .string p] W fun e w' => e = .returned (.bool true) ∧ Below W.heap.size W w' := by
  by_cases hz : SizeOK l
  · by_cases hs : x.1.size ≤ 100 ∧ x.2.2.size ≤ 600 ∧ p.size ≤ 100
    · exact puts_good L l a cap x p W hg h hz hs
    · exact puts_bad L l a cap x p W hg h (.inr ⟨hz, hs⟩)
  · exact puts_bad L l a cap x p W hg h (.inl hz)
end Go.Proofs.YtflomllfehoedaaDoor
