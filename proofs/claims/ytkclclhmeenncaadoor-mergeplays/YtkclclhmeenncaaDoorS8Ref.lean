/-
  Contracts of the document's own answers of layer 8 (package shaleref08): Right, Lay. Conditions: as each says.
-/
import Derived.Test.YtkclclhmeenncaaDoorPb
import Derived.Test.YtkclclhmeenncaaDoorS3RefS
import Derived.Test.YtkclclhmeenncaaDoorS4Ref
import Derived.Test.YtkclclhmeenncaaDoorConv
import Derived.Deep.RegionHeld3
namespace Go.Proofs.YtkclclhmeenncaaDoor
open Go.RowKit

theorem names_dp (p : ByteArray) : (isP p.data.toList ∧ ¬ (names p).length = 0) ↔ 1 ≤ dp p.data.toList := by
  constructor
  · rintro ⟨h, h0⟩
    rw [dp_pos h]
    rw [names_pos h] at h0
    simp [prts] at h0
    have : (pcs p.data.toList).length ≠ 0 := fun e => h0 (List.length_eq_zero_iff.1 e)
    omega
  · intro h
    have hp : isP p.data.toList := by
      by_cases hp : isP p.data.toList
      · exact hp
      · rw [dp_neg hp] at h
        omega
    refine ⟨hp, ?_⟩
    rw [names_pos hp]
    rw [dp_pos hp] at h
    simp [prts]
    intro e
    rw [e] at h
    simp at h
theorem size_beq (d : ByteArray) : (d.toList == []) = decide (d.size = 0) := by
  rw [Lib.toList_data, Lib.size_eq, Bool.eq_iff_iff]
  rw [beq_iff_eq, decide_eq_true_iff, List.length_eq_zero_iff]
set_option maxRecDepth 10000 in
set_option maxHeartbeats 1000000 in
theorem refRight_any (p : ByteArray) (k : Int) (d : ByteArray) (hz : p.size ≤ 100000) (w : World) : Calls Tryd.prog 15 #[entV p k d] w fun e w' => e = .returned (.bool (rightE p k d)) ∧ Below w.heap.size w w' := by
  obtain ⟨W, hW⟩ : ∃ W, w.alloc (.cells #[.string p, .int .i64 k, .string d] 35) = W := ⟨_, rfl⟩
  obtain ⟨N, hN⟩ : ∃ N, w.heap.size = N := ⟨_, rfl⟩
  have hb : Below N w W := by rw [← hW, ← hN]; exact (Below.refl _ _).alloc (Nat.le_refl _) _
  have hlt : N < W.heap.size := by rw [← hW, ← hN]; simp
  have c0 : W.cell? ⟨N, 0, none⟩ = some (.string p) := by rw [← hW, ← hN]; simp
  have c1 : W.cell? ⟨N, 1, none⟩ = some (.int .i64 k) := by rw [← hW, ← hN]; simp
  have c2 : W.cell? ⟨N, 2, none⟩ = some (.string d) := by rw [← hW, ← hN]; simp
  have HB := Lib.hid hb
  have HLT := Lib.hid hlt
  have HC := Lib.hid (And.intro c1 c2)
  have HND := Lib.hid (names_dp p)
  have HZ := Lib.hid hz
  have HSB := Lib.hid (size_beq d)
  clear hb hlt c1 c2 hz
  go_enter Tryd.func15, Tryd.ntmps15
  go_wp2_with fail
  refine (refSplit_any p HZ.out _).mono ?_
  rintro e w1 ⟨a, cap, rfl, _, hb1⟩
  have d1 : w1.cell? ⟨N, 1, none⟩ = some (.int .i64 k) := (hb1.cell (p := ⟨N, 1, none⟩) HLT.out).trans HC.out.1
  have d2 : w1.cell? ⟨N, 2, none⟩ = some (.string d) := (hb1.cell (p := ⟨N, 2, none⟩) HLT.out).trans HC.out.2
  have HB1 := Lib.hid (show Below N w w1 from HB.out.trans (hb1.mono (Nat.le_of_lt HLT.out)))
  clear hb1 c0 hW
  obtain ⟨nl, hnl⟩ : ∃ nl, (names p).length = nl := ⟨_, rfl⟩
  rw [hnl] at HND ⊢
  clear hnl
  by_cases hP : isP p.data.toList
  · rw [decide_eq_true hP]
    by_cases h0 : nl = 0
    · have hR : rightE p k d = false := by
        unfold rightE
        rw [decide_eq_false (fun h => (HND.out.2 h).2 h0), Bool.false_and]
      have HRR := Lib.hid hR
      have h0' : ((nl : Int) == 0) = true := by rw [h0]; rfl
      clear hP h0 hR
      go_wp2
      go_ret
      exact ⟨by rw [HRR.out]; first | rfl | (simp; done) | (simp; omega), by first | exact HB1.out | (rw [hN]; exact HB1.out)⟩
    · have hD : 1 ≤ dp p.data.toList := HND.out.1 ⟨hP, h0⟩
      have h0' : ((nl : Int) == 0) = false := beq_eq_false_iff_ne.2 (by omega)
      by_cases h1 : k = 1
      · have h1' : ((k : Int) == 1) = true := by rw [h1]; rfl
        have hR : rightE p k d = decide (d.size ≤ 256) := by
          unfold rightE
          rw [decide_eq_true hD, h1]
          simp
        have HRR := Lib.hid hR
        clear hP h0 hR hD h1
        go_wp2
        go_ret
        exact ⟨by rw [HRR.out]; first | rfl | (simp; done) | (simp; omega), by first | exact HB1.out | (rw [hN]; exact HB1.out)⟩
      · have h1' : ((k : Int) == 1) = false := beq_eq_false_iff_ne.2 h1
        have hR : rightE p k d = (decide (2 ≤ k ∧ k ≤ 4) && (d.toList == [])) := by
          unfold rightE
          rw [decide_eq_true hD, h1', HSB.out]
          simp
        by_cases h2 : 2 ≤ k
        · by_cases h3 : k ≤ 4
          · rw [decide_eq_true ⟨h2, h3⟩, Bool.true_and] at hR
            have HRR := Lib.hid hR
            clear hP h0 hR hD h1
            go_wp2
            go_ret
            exact ⟨by rw [HRR.out]; first | rfl | (simp; done) | (simp; omega), by first | exact HB1.out | (rw [hN]; exact HB1.out)⟩
          · rw [decide_eq_false (fun h => h3 h.2), Bool.false_and] at hR
            have HRR := Lib.hid hR
            clear hP h0 hR hD h1
            go_wp2
            go_ret
            exact ⟨by rw [HRR.out]; first | rfl | (simp; done) | (simp; omega), by first | exact HB1.out | (rw [hN]; exact HB1.out)⟩
        · rw [decide_eq_false (fun h => h2 h.1), Bool.false_and] at hR
          have HRR := Lib.hid hR
          clear hP h0 hR hD h1
          go_wp2
          go_ret
          exact ⟨by rw [HRR.out]; first | rfl | (simp; done) | (simp; omega), by first | exact HB1.out | (rw [hN]; exact HB1.out)⟩
  · rw [decide_eq_false hP]
    have hR : rightE p k d = false := by
      unfold rightE
      rw [decide_eq_false (fun h => hP (HND.out.2 h).1), Bool.false_and]
    have HRR := Lib.hid hR
    clear hP hR
    go_wp2
    go_ret
    exact ⟨by rw [HRR.out]; first | rfl | (simp; done) | (simp; omega), by first | exact HB1.out | (rw [hN]; exact HB1.out)⟩
end Go.Proofs.YtkclclhmeenncaaDoor
