/-
  The law EntryBack, walked: for every entry and text it returns true and changes nothing that was there. Condition: errorType holds error's type.
-/
import Derived.Test.YtdpgdnofiepkoaaDoorS8Awake
namespace Go.Proofs.YtdpgdnofiepkoaaDoor
open Go.RowKit

set_option maxRecDepth 10000 in
set_option maxHeartbeats 1000000 in
theorem back8_long (p d s : ByteArray) (k : Int) (h : ¬ (p.size ≤ 600 ∧ d.size ≤ 600) ∨ ((p.size ≤ 600 ∧ d.size ≤ 600) ∧ (600 : Int) < (s.size : Int))) (W : World) :
    Calls Tryd.prog 3 #[entV p k d, .string s] W fun e w' => e = .returned (.bool true) ∧ Below W.heap.size W w' := by
  have hb0 : Below W.heap.size W (W.alloc (.cells #[.string p, .int .i64 k, .string d] 23)) := (Below.refl _ _).alloc (Nat.le_refl _) _
  have HB0 := Lib.hid hb0
  have HR0 := Lib.hid (enAt_new W p k d)
  clear hb0
  obtain ⟨fv, hfv⟩ : ∃ fv, decide (p.size ≤ 600 ∧ d.size ≤ 600) = fv := ⟨_, rfl⟩
  have ways : fv = false ∨ (fv = true ∧ (600 : Int) < (s.size : Int)) := by
    rcases h with h | ⟨h, h2⟩
    · exact .inl (by rw [← hfv]; exact decide_eq_false h)
    · exact .inr ⟨by rw [← hfv]; exact decide_eq_true h, h2⟩
  have HF := Lib.hid hfv
  clear h hfv
  rcases ways with rfl | ⟨rfl, h2⟩
  all_goals
    go_enter Tryd.func3, Tryd.ntmps3
    go_wp2_with fail
    refine (awake8 _).mono ?_
    rintro e w1 ⟨rfl, hb1⟩
    have HB1 := Lib.hid (HB0.out.trans (hb1.mono HB0.out.size))
    have r1 := HR0.out.below hb1
    have c0 := r1.c0
    have c1 := r1.c1
    have c2 := r1.c2
    clear hb1 r1
    go_wp2_with fail
    refine (few8 p d k _).mono ?_
    rintro e w2 ⟨rfl, hb2⟩
    rw [HF.out]
    have HB2 := Lib.hid (HB1.out.trans (hb2.mono HB1.out.size))
    clear hb2 c0 c1 c2
    go_wp2_with fail
    refine (awake8 _).mono ?_
    rintro e w3 ⟨rfl, hb3⟩
    have HB3 := Lib.hid (HB2.out.trans (hb3.mono HB2.out.size))
    clear hb3
    go_wp2
    go_ret
    exact ⟨rfl, HB3.out⟩
set_option maxRecDepth 10000 in
set_option maxHeartbeats 1000000 in
theorem back8_bad (p d s : ByteArray) (k : Int) (h : p.size ≤ 600 ∧ d.size ≤ 600) (hs : ¬ (600 : Int) < (s.size : Int)) (hr : rightE p k d = false) (W : World) (hg : EtLaid W) :
    Calls Tryd.prog 3 #[entV p k d, .string s] W fun e w' => e = .returned (.bool true) ∧ Below W.heap.size W w' := by
  have hb0 : Below W.heap.size W (W.alloc (.cells #[.string p, .int .i64 k, .string d] 23)) := (Below.refl _ _).alloc (Nat.le_refl _) _
  have HB0 := Lib.hid hb0
  have HR0 := Lib.hid (enAt_new W p k d)
  have HG := Lib.hid hg
  have HF := Lib.hid (decide_eq_true h)
  have HL := Lib.hid (fun X => lay8_bad p k d (by unfold maxLen; omega) hr X)
  have HRI := Lib.hid (fun X => right8 p k d (by unfold maxLen; omega) X)
  have HRV := Lib.hid hr
  clear hb0 hg h hr
  go_enter Tryd.func3, Tryd.ntmps3
  go_wp2_with fail
  refine (awake8 _).mono ?_
  rintro e w1 ⟨rfl, hb1⟩
  have HB1 := Lib.hid (HB0.out.trans (hb1.mono HB0.out.size))
  have r1 := HR0.out.below hb1
  have HR1 := Lib.hid r1
  have c0 := r1.c0
  have c1 := r1.c1
  have c2 := r1.c2
  clear hb1 r1
  go_wp2_with fail
  refine (few8 p d k _).mono ?_
  rintro e w2 ⟨rfl, hb2⟩
  rw [HF.out]
  have HB2 := Lib.hid (HB1.out.trans (hb2.mono HB1.out.size))
  have r2 := HR1.out.below hb2
  have HR2 := Lib.hid r2
  have d0 := r2.c0
  have d1 := r2.c1
  have d2 := r2.c2
  clear hb2 c0 c1 c2 r2
  go_wp2_with fail
  refine (HL.out _).mono ?_
  rintro e w3 ⟨rfl, hb3⟩
  have HB3 := Lib.hid (HB2.out.trans (hb3.mono HB2.out.size))
  have HR3 := Lib.hid (HR2.out.below hb3)
  clear hb3 d0 d1 d2
  go_wp2_with fail
  refine (code_no 1 _ (HG.out.below HG.out.lt HB3.out)).mono ?_
  rintro e w4 ⟨rfl, hb4⟩
  have HB4 := Lib.hid (HB3.out.trans (hb4.mono HB3.out.size))
  have HR4 := Lib.hid (HR3.out.below hb4)
  clear hb4
  go_wp2_with fail
  refine (code_no 1 _ (HG.out.below HG.out.lt HB4.out)).mono ?_
  rintro e w5 ⟨rfl, hb5⟩
  have HB5 := Lib.hid (HB4.out.trans (hb5.mono HB4.out.size))
  have r5 := HR4.out.below hb5
  have e0 := r5.c0
  have e1 := r5.c1
  have e2 := r5.c2
  clear hb5 r5
  go_wp2_with fail
  refine (HRI.out _).mono ?_
  rintro e w6 ⟨rfl, hb6⟩
  rw [HRV.out]
  have HB6 := Lib.hid (HB5.out.trans (hb6.mono HB5.out.size))
  clear hb6 e0 e1 e2
  go_wp2
  go_ret
  exact ⟨rfl, HB6.out⟩
set_option maxRecDepth 10000 in
set_option maxHeartbeats 2000000 in
theorem back8_good (p d s : ByteArray) (k : Nat) (h : p.size ≤ 600 ∧ d.size ≤ 600) (hs : ¬ (600 : Int) < (s.size : Int)) (hr : rightE p (k : Int) d = true) (W : World) :
    Calls Tryd.prog 3 #[entV p (k : Int) d, .string s] W fun e w' => e = .returned (.bool true) ∧ Below W.heap.size W w' := by
  have hb0 : Below W.heap.size W (W.alloc (.cells #[.string p, .int .i64 (k : Int), .string d] 23)) := (Below.refl _ _).alloc (Nat.le_refl _) _
  have HB0 := Lib.hid hb0
  have HR0 := Lib.hid (enAt_new W p (k : Int) d)
  have HF := Lib.hid (decide_eq_true h)
  have HL := Lib.hid (fun X => lay8_good p k d hr X)
  have HRI := Lib.hid (fun X => right8 p (k : Int) d (by unfold maxLen; omega) X)
  have HRV := Lib.hid hr
  obtain ⟨L, hL⟩ : ∃ L, layE p k d = L := ⟨_, rfl⟩
  have hLs : L.size ≤ 2000 := by
    obtain ⟨_, a2, a3, a4, _⟩ := rightE_parts hr
    have h1 := congrArg List.length (layE_list p k d)
    rw [← Lib.size_eq, hL] at h1
    have h2 := dg_nine (n := k) (by omega)
    have h3 := dg_nine (n := p.size) (by omega)
    have h4 := dg_nine (n := d.size) (by omega)
    have h5 := Lib.size_eq p
    have h6 := Lib.size_eq d
    simp only [List.length_append] at h1
    omega
  obtain ⟨Ls, hLs2⟩ : ∃ Ls, L ++ s = Ls := ⟨_, rfl⟩
  have hsum : ¬ 9223372036854775807 < L.size + s.size := by omega
  have HEN := Lib.hid (show Ent8 Ls.data.toList p k d s.data.toList from ⟨by rw [← hLs2, ByteArray.data_append, Array.toList_append, hL], hr⟩)
  have HLZ := Lib.hid (show Ls.size ≤ 100000 by rw [← hLs2, ByteArray.size_append]; omega)
  have HLL := Lib.hid hL
  clear hb0 h hr hL hLs
  go_enter Tryd.func3, Tryd.ntmps3
  go_wp2_with fail
  refine (awake8 _).mono ?_
  rintro e w1 ⟨rfl, hb1⟩
  have HB1 := Lib.hid (HB0.out.trans (hb1.mono HB0.out.size))
  have r1 := HR0.out.below hb1
  have HR1 := Lib.hid r1
  have c0 := r1.c0
  have c1 := r1.c1
  have c2 := r1.c2
  clear hb1 r1
  go_wp2_with fail
  refine (few8 p d (k : Int) _).mono ?_
  rintro e w2 ⟨rfl, hb2⟩
  rw [HF.out]
  have HB2 := Lib.hid (HB1.out.trans (hb2.mono HB1.out.size))
  have r2 := HR1.out.below hb2
  have HR2 := Lib.hid r2
  have d0 := r2.c0
  have d1 := r2.c1
  have d2 := r2.c2
  clear hb2 c0 c1 c2 r2
  go_wp2_with fail
  refine (HL.out _).mono ?_
  rintro e w3 ⟨rfl, hb3⟩
  rw [HLL.out]
  have HB3 := Lib.hid (HB2.out.trans (hb3.mono HB2.out.size))
  have HR3 := Lib.hid (HR2.out.below hb3)
  clear hb3 d0 d1 d2
  go_wp2_with fail
  refine (code_zero _).mono ?_
  rintro e w4 ⟨rfl, rfl⟩
  go_wp2_with fail
  refine (new_any Ls _).mono ?_
  rintro e w4 ⟨rfl, hrd4, hb4⟩
  have HB4 := Lib.hid (HB3.out.trans (hb4.mono HB3.out.size))
  have HR4 := Lib.hid (HR3.out.below hb4)
  have HRD4 := Lib.hid hrd4
  obtain ⟨M, hM⟩ : ∃ M, w3.heap.size = M := ⟨_, rfl⟩
  have HM := Lib.hid (show W.heap.size < M ∧ W.heap.size ≤ M by rw [← hM]; exact ⟨HR3.out.lt, HB3.out.size⟩)
  rw [hM] at HRD4 ⊢
  clear hb4 hrd4 hM hLs2
  go_wp2_with fail
  refine (read8 Ls HLZ.out _ _ HRD4.out).mono ?_
  rintro e w5 ⟨hrd | ⟨hno, _⟩, hb5⟩
  case inr => exact absurd HEN.out (hno _ _ _ _)
  obtain ⟨x, m, y, rest, hen, rfl, hrd5⟩ := hrd
  obtain ⟨rfl, rfl, rfl, rfl⟩ := layE_cut (hen.1.symm.trans HEN.out.1)
  have HB5 := Lib.hid (HB4.out.trans (hb5.mono HM.out.2))
  have r5 : EnAt w5 W.heap.size x (m : Int) y := HR4.out.of (hb5.block _ HM.out.1)
  have HRD5 := Lib.hid hrd5
  have hb6 : Below w5.heap.size w5 (w5.alloc (.cells #[.string x, .int .i64 (m : Int), .string y] 23)) := (Below.refl _ _).alloc (Nat.le_refl _) _
  have q6 := enAt_new w5 x (m : Int) y
  obtain ⟨w6, hw6⟩ : ∃ w6, w5.alloc (.cells #[.string x, .int .i64 (m : Int), .string y] 23) = w6 := ⟨_, rfl⟩
  obtain ⟨Y, hY⟩ : ∃ Y, w5.heap.size = Y := ⟨_, rfl⟩
  rw [hw6] at hb6 q6
  rw [hY] at q6
  have HB6 := Lib.hid (HB5.out.trans (hb6.mono HB5.out.size))
  have r6 := r5.below hb6
  have HRD6 := Lib.hid (HRD5.out.below hb6)
  have HQ6 := Lib.hid q6
  have c0 := q6.c0
  have c1 := q6.c1
  have c2 := q6.c2
  have d0 := r6.c0
  have d1 := r6.c1
  have d2 := r6.c2
  clear hen hrd5 hb5 r5 hb6 q6 r6
  go_wp2_with fail
  refine (code_zero _).mono ?_
  rintro e w7 ⟨rfl, rfl⟩
  clear hw6 hY
  go_wp2_with fail
  refine (left_any _ _ _ HRD6.out).mono ?_
  rintro e w7 ⟨rfl, rfl⟩
  rw [bs_self]
  go_wp2_with fail
  refine (HRI.out _).mono ?_
  rintro e w8 ⟨rfl, hb8⟩
  rw [HRV.out]
  have HB8 := Lib.hid (HB6.out.trans (hb8.mono HB6.out.size))
  clear hb8
  go_wp2
  go_ret
  exact ⟨by first | rfl | (simp; done), HB8.out⟩
theorem back8_any (p d s : ByteArray) (k : Int) (W : World) (hg : EtLaid W) :
    Calls Tryd.prog 3 #[entV p k d, .string s] W fun e w' => e = .returned (.bool true) ∧ Below W.heap.size W w' := by
  by_cases h : p.size ≤ 600 ∧ d.size ≤ 600
  · by_cases hs : (600 : Int) < (s.size : Int)
    · exact back8_long p d s k (.inr ⟨h, hs⟩) W
    · cases hr : rightE p k d with
      | false => exact back8_bad p d s k h hs hr W hg
      | true =>
        obtain ⟨_, a2, a3, _, _⟩ := rightE_parts hr
        obtain ⟨m, rfl⟩ : ∃ m : Nat, k = (m : Int) := ⟨k.toNat, by omega⟩
        exact back8_good p d s m h hs hr W
  · exact back8_long p d s k (.inl h) W
end Go.Proofs.YtdpgdnofiepkoaaDoor
