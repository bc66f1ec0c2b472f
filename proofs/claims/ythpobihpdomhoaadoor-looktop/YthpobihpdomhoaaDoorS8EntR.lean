/-
  Contracts of package entry's Right, Less and Holds, for every entry. Conditions: as each says.
-/
import Derived.Test.YthpobihpdomhoaaDoorPc
import Derived.Test.YthpobihpdomhoaaDoorPb
import Derived.Test.YthpobihpdomhoaaDoorPa
namespace Go.Proofs.YthpobihpdomhoaaDoor
open Go.RowKit

attribute [local go_sem ↓] old_ldi old_lds
attribute [local go_sem] oldC_forall isC1_ptr isS1_ptr c1V_ptr
set_option maxRecDepth 10000 in
set_option maxHeartbeats 1000000 in
theorem right8 (p : ByteArray) (k : Int) (d : ByteArray) (hz : p.size ≤ maxLen) (w : World) : Calls Tryd.prog 37 #[entV p k d] w fun e w' => e = .returned (.bool (rightE p k d)) ∧ Below w.heap.size w w' := by
  have hb0 : Below w.heap.size w (w.alloc (.cells #[.string p, .int .i64 k, .string d] 26)) := (Below.refl _ _).alloc (Nat.le_refl _) _
  have r0 := enAt_new w p k d
  obtain ⟨W, hW⟩ : ∃ W, w.alloc (.cells #[.string p, .int .i64 k, .string d] 26) = W := ⟨_, rfl⟩
  rw [hW] at hb0 r0
  have c0 := r0.c0
  have HB0 := Lib.hid hb0
  have HR0 := Lib.hid r0
  have HZ := Lib.hid hz
  obtain ⟨n, hn⟩ : ∃ n, dp p.data.toList = n := ⟨_, rfl⟩
  have HN := Lib.hid hn
  have hrE : rightE p k d = (decide (1 ≤ n) && (((k == 1) && decide (d.size ≤ 256)) || (decide (2 ≤ k ∧ k ≤ 4) && decide (d.size = 0)))) := by unfold rightE; rw [hn]
  have HRE := Lib.hid hrE
  clear hb0 r0 hz hn hrE
  have hde : d.size = 0 → d = ByteArray.empty := fun h => ByteArray.size_eq_zero_iff.1 h
  have called : (((k == 1) = true ∧ (d.size : Int) ≤ 256) ∨ ((k == 1) = false ∧ (k == 2) = true ∧ d = ByteArray.empty) ∨ ((k == 1) = false ∧ (k == 2) = false ∧ (k == 3) = true ∧ d = ByteArray.empty) ∨ ((k == 1) = false ∧ (k == 2) = false ∧ (k == 3) = false ∧ (k == 4) = true ∧ d = ByteArray.empty)) ∧ rightE p k d = decide (0 < n) ∨ (((k == 1) = true ∧ ¬ (d.size : Int) ≤ 256) ∨ ((k == 1) = false ∧ (k == 2) = true ∧ ¬ d = ByteArray.empty) ∨ ((k == 1) = false ∧ (k == 2) = false ∧ (k == 3) = true ∧ ¬ d = ByteArray.empty) ∨ ((k == 1) = false ∧ (k == 2) = false ∧ (k == 3) = false ∧ (k == 4) = true ∧ ¬ d = ByteArray.empty) ∨ ((k == 1) = false ∧ (k == 2) = false ∧ (k == 3) = false ∧ (k == 4) = false)) ∧ rightE p k d = false := by
    rw [HRE.out]
    by_cases e1 : k = 1
    · subst e1
      by_cases h : d.size ≤ 256
      · exact .inl ⟨.inl ⟨rfl, by omega⟩, by simp [h]; omega⟩
      · exact .inr ⟨.inl ⟨rfl, by omega⟩, by simp [h]⟩
    · by_cases e2 : k = 2
      · subst e2
        by_cases h : d.size = 0
        · exact .inl ⟨.inr (.inl ⟨rfl, rfl, hde h⟩), by simp [h]; omega⟩
        · exact .inr ⟨.inr (.inl ⟨rfl, rfl, fun e => h (by rw [e]; rfl)⟩), by simp [h]⟩
      · by_cases e3 : k = 3
        · subst e3
          by_cases h : d.size = 0
          · exact .inl ⟨.inr (.inr (.inl ⟨rfl, rfl, rfl, hde h⟩)), by simp [h]; omega⟩
          · exact .inr ⟨.inr (.inr (.inl ⟨rfl, rfl, rfl, fun e => h (by rw [e]; rfl)⟩)), by simp [h]⟩
        · by_cases e4 : k = 4
          · subst e4
            by_cases h : d.size = 0
            · exact .inl ⟨.inr (.inr (.inr ⟨rfl, rfl, rfl, rfl, hde h⟩)), by simp [h]; omega⟩
            · exact .inr ⟨.inr (.inr (.inr (.inl ⟨rfl, rfl, rfl, rfl, fun e => h (by rw [e]; rfl)⟩))), by simp [h]⟩
          · refine .inr ⟨.inr (.inr (.inr (.inr ⟨beq_eq_false_iff_ne.2 e1, beq_eq_false_iff_ne.2 e2, beq_eq_false_iff_ne.2 e3, beq_eq_false_iff_ne.2 e4⟩))), ?_⟩
            rw [beq_eq_false_iff_ne.2 e1, decide_eq_false (show ¬ (2 ≤ k ∧ k ≤ 4) by omega)]
            simp
  clear hde
  have c1 := HR0.out.c1
  have c2 := HR0.out.c2
  rcases called with ⟨h, hv⟩ | ⟨h, hv⟩
  · have HV := Lib.hid hv
    clear hv HRE
    rcases h with ⟨g1, g5⟩ | ⟨g1, g2, rfl⟩ | ⟨g1, g2, g3, rfl⟩ | ⟨g1, g2, g3, g4, rfl⟩
    all_goals
      go_enter Tryd.func37, Tryd.ntmps37
      go_wp2_with fail
      refine (deep_any p (by have := HZ.out; unfold maxLen at this; omega) _).mono ?_
      rintro e w1 ⟨rfl, hb1⟩
      rw [HN.out]
      have HB1 := Lib.hid (HB0.out.trans (hb1.mono HB0.out.size))
      clear hb1
      go_wp2
      go_ret
      exact ⟨by rw [HV.out]; first | rfl | (simp; done) | (simp; omega), HB1.out⟩
  · have HV := Lib.hid hv
    clear hv HRE
    rcases h with ⟨g1, g5⟩ | ⟨g1, g2, g5⟩ | ⟨g1, g2, g3, g5⟩ | ⟨g1, g2, g3, g4, g5⟩ | ⟨g1, g2, g3, g4⟩
    all_goals
      go_enter Tryd.func37, Tryd.ntmps37
      go_wp2
      go_ret
      exact ⟨by rw [HV.out]; rfl, HB0.out⟩
theorem less8 (p q d f : ByteArray) (k m : Int) (w : World) : Calls Tryd.prog 38 #[entV p k d, entV q m f] w fun e w' => e = .returned (.bool (Op.bytesLess p.data.toList q.data.toList)) ∧ Below w.heap.size w w' := by
  go_enter Tryd.func38, Tryd.ntmps38
  go_wp2
  go_ret
  exact ⟨by simp [Lib.toList_data], ((Below.refl _ _).alloc (Nat.le_refl _) _).alloc (by simp) _⟩
theorem holds8 (p d : ByteArray) (k : Int) (w : World) : Calls Tryd.prog 59 #[entV p k d] w fun e w' => e = .returned (.bool (k == 2 || k == 4)) ∧ Below w.heap.size w w' := by
  by_cases h2 : k = 2
  · have g : (k == 2) = true := by rw [h2]; rfl
    rw [g, Bool.true_or]
    clear h2
    go_enter Tryd.func59, Tryd.ntmps59
    go_wp2
    go_ret
    exact ⟨by simp, (Below.refl _ _).alloc (Nat.le_refl _) _⟩
  · have g : (k == 2) = false := beq_eq_false_iff_ne.2 h2
    rw [g, Bool.false_or]
    clear h2
    go_enter Tryd.func59, Tryd.ntmps59
    go_wp2
    go_ret
    exact ⟨by simp, (Below.refl _ _).alloc (Nat.le_refl _) _⟩
end Go.Proofs.YthpobihpdomhoaaDoor
