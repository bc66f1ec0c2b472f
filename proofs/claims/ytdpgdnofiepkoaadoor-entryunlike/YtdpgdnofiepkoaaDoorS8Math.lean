/-
  Entries as bytes, told by lists: one's bytes begin no other one's; what a right entry's parts are. No condition.
-/
import Derived.Test.YtdpgdnofiepkoaaDoorS8RefL
namespace Go.Proofs.YtdpgdnofiepkoaaDoor
open Go.RowKit

theorem layE_list (p : ByteArray) (k : Nat) (d : ByteArray) : (layE p k d).data.toList = dg k ++ (dg p.size ++ (p.data.toList ++ (dg d.size ++ d.data.toList))) := by
  unfold layE
  simp only [ByteArray.data_append, Array.toList_append, numB_list, List.append_assoc]
theorem ba_ext {a b : ByteArray} (h : a.data.toList = b.data.toList) : a = b := by
  apply ByteArray.ext
  exact Array.ext' h
/-- Two entries' bytes, with anything behind them, are the same only if both are. -/
theorem layE_cut {p q d e : ByteArray} {k m : Nat} {x y : List UInt8} (h : (layE p k d).data.toList ++ x = (layE q m e).data.toList ++ y) : p = q ∧ k = m ∧ d = e ∧ x = y := by
  rw [layE_list, layE_list] at h
  simp only [List.append_assoc] at h
  obtain ⟨rfl, h1⟩ := dg_cut _ _ _ _ h
  obtain ⟨h2, h3⟩ := dg_cut _ _ _ _ h1
  obtain ⟨h4, h5⟩ := List.append_inj h3 (by rw [← Lib.size_eq, ← Lib.size_eq]; exact h2)
  obtain ⟨h6, h7⟩ := dg_cut _ _ _ _ h5
  obtain ⟨h8, h9⟩ := List.append_inj h7 (by rw [← Lib.size_eq, ← Lib.size_eq]; exact h6)
  exact ⟨ba_ext h4, rfl, ba_ext h8, h9⟩
theorem rightE_parts {p d : ByteArray} {k : Int} (h : rightE p k d = true) : 1 ≤ dp p.data.toList ∧ 1 ≤ k ∧ k ≤ 4 ∧ d.size ≤ 256 ∧ (k = 1 ∨ d.size = 0) := by
  unfold rightE at h
  rw [Bool.and_eq_true, decide_eq_true_iff, Bool.or_eq_true, Bool.and_eq_true, Bool.and_eq_true, beq_iff_eq, decide_eq_true_iff, decide_eq_true_iff, decide_eq_true_iff] at h
  omega
theorem rightE_of {p d : ByteArray} {k : Int} (h1 : 1 ≤ dp p.data.toList) (h2 : (k = 1 ∧ d.size ≤ 256) ∨ ((2 ≤ k ∧ k ≤ 4) ∧ d.size = 0)) : rightE p k d = true := by
  unfold rightE
  rw [Bool.and_eq_true, decide_eq_true_iff, Bool.or_eq_true, Bool.and_eq_true, Bool.and_eq_true, beq_iff_eq, decide_eq_true_iff, decide_eq_true_iff, decide_eq_true_iff]
  exact ⟨h1, h2⟩
theorem rightE_iff {p d : ByteArray} {k : Int} : rightE p k d = true ↔ 1 ≤ dp p.data.toList ∧ ((k = 1 ∧ d.size ≤ 256) ∨ ((2 ≤ k ∧ k ≤ 4) ∧ d.size = 0)) := by
  unfold rightE
  rw [Bool.and_eq_true, decide_eq_true_iff, Bool.or_eq_true, Bool.and_eq_true, Bool.and_eq_true, beq_iff_eq, decide_eq_true_iff, decide_eq_true_iff, decide_eq_true_iff]
theorem isP_of_dp {l : List UInt8} (h : 1 ≤ dp l) : isP l := by
  by_cases hp : isP l
  · exact hp
  · rw [dp_neg hp] at h
    omega
/-- A path of names has at most 54 bytes. -/
theorem jn_len : ∀ (ns : List (List UInt8)), (∀ x ∈ ns, x.length ≤ 8) → (jn ns).length ≤ 9 * ns.length
  | [], _ => by simp [jn]
  | x :: r, h => by
    have h1 := h x List.mem_cons_self
    have h2 := jn_len r fun y hy => h y (List.mem_cons_of_mem _ hy)
    have h3 : jn (x :: r) = 47 :: (x ++ jn r) := by simp [jn]
    rw [h3]
    simp
    omega
theorem isP_len {l : List UInt8} (h : isP l) : l.length ≤ 54 := by
  have h6 := h.2.1
  have h8 : ∀ x ∈ pcs l, x.length ≤ 8 := fun x hx => nm_len (h.2.2 x hx)
  rw [← h.eq, pth]
  split
  · decide
  · have := jn_len _ h8
    omega
end Go.Proofs.YtdpgdnofiepkoaaDoor
