/-
  A number's bytes: its digits of 7 bits, the lowest first; they are 1 to 9, no fewer of a greater number; of two numbers' bytes none are the beginning of the other's. No condition.
-/
import Derived.WalkKit
import Derived.IntWalk
namespace Go.Proofs.YtflomllfehoedaaDoor
open Go.RowKit

/-- A number's bytes: its digits of 7 bits, the lowest first, each but the last one with 128 added. -/
def dg (n : Nat) : List UInt8 := if n < 128 then [UInt8.ofNat n] else UInt8.ofNat (n % 128 + 128) :: dg (n / 128)
termination_by n
decreasing_by omega

theorem dg_last {n : Nat} (h : n < 128) : dg n = [UInt8.ofNat n] := by rw [dg, if_pos h]
theorem dg_more {n : Nat} (h : ¬ n < 128) : dg n = UInt8.ofNat (n % 128 + 128) :: dg (n / 128) := by rw [dg, if_neg h]
theorem ofNat_toNat {n : Nat} (h : n < 256) : (UInt8.ofNat n).toNat = n := by rw [UInt8.toNat_ofNat']; exact Nat.mod_eq_of_lt h

theorem dg_pos (n : Nat) : 1 ≤ (dg n).length := by
  by_cases h : n < 128
  · rw [dg_last h]; simp
  · rw [dg_more h]; simp
theorem dg_le : ∀ (k n : Nat), n < 128 ^ (k + 1) → (dg n).length ≤ k + 1
  | 0, n, h => by rw [dg_last (by simpa using h)]; simp
  | k + 1, n, h => by
    by_cases h1 : n < 128
    · rw [dg_last h1]; simp
    · rw [dg_more h1, List.length_cons]
      have := dg_le k (n / 128) (by rw [Nat.div_lt_iff_lt_mul (by decide)]; rw [Nat.pow_succ] at h; exact h)
      omega
theorem dg_nine {n : Nat} (h : n ≤ 4611686018427387904) : (dg n).length ≤ 9 := dg_le 8 n (by omega)
theorem dg_mono : ∀ (a b : Nat), a ≤ b → (dg a).length ≤ (dg b).length := by
  intro a
  induction a using Nat.strongRecOn with
  | _ a ih =>
    intro b h
    by_cases h1 : a < 128
    · rw [dg_last h1]; exact dg_pos b
    · have h2 : ¬ b < 128 := by omega
      rw [dg_more h1, dg_more h2, List.length_cons, List.length_cons]
      have := ih (a / 128) (by omega) (b / 128) (Nat.div_le_div_right h)
      omega
theorem dg_cut : ∀ (a b : Nat) (x y : List UInt8), dg a ++ x = dg b ++ y → a = b ∧ x = y := by
  intro a
  induction a using Nat.strongRecOn with
  | _ a ih =>
    intro b x y h
    by_cases h1 : a < 128
    · by_cases h2 : b < 128
      · rw [dg_last h1, dg_last h2] at h
        simp only [List.cons_append, List.nil_append, List.cons.injEq] at h
        have e := congrArg UInt8.toNat h.1
        rw [ofNat_toNat (by omega), ofNat_toNat (by omega)] at e
        exact ⟨e, h.2⟩
      · rw [dg_last h1, dg_more h2] at h
        simp only [List.cons_append, List.nil_append, List.cons.injEq] at h
        have e := congrArg UInt8.toNat h.1
        rw [ofNat_toNat (by omega), ofNat_toNat (by omega)] at e
        omega
    · by_cases h2 : b < 128
      · rw [dg_more h1, dg_last h2] at h
        simp only [List.cons_append, List.nil_append, List.cons.injEq] at h
        have e := congrArg UInt8.toNat h.1
        rw [ofNat_toNat (by omega), ofNat_toNat (by omega)] at e
        omega
      · rw [dg_more h1, dg_more h2] at h
        simp only [List.cons_append, List.cons.injEq] at h
        have e := congrArg UInt8.toNat h.1
        rw [ofNat_toNat (by omega), ofNat_toNat (by omega)] at e
        obtain ⟨e2, e3⟩ := ih (a / 128) (by omega) (b / 128) x y h.2
        exact ⟨by omega, e3⟩
theorem dg_inj {a b : Nat} (h : dg a = dg b) : a = b := (dg_cut a b [] [] (by rw [h])).1

/-- The bytes as a text. -/
def numB (n : Nat) : ByteArray := ⟨(dg n).toArray⟩
theorem numB_list (n : Nat) : (numB n).data.toList = dg n := by simp [numB]
theorem numB_size (n : Nat) : (numB n).size = (dg n).length := rfl
theorem numB_size_nine {n : Nat} (h : n ≤ 4611686018427387904) : (numB n).size ≤ 9 := dg_nine h
theorem numB_size_pos (n : Nat) : 1 ≤ (numB n).size := dg_pos n
theorem numB_inj {a b : Nat} (h : numB a = numB b) : a = b := dg_inj (by rw [← numB_list, h, numB_list])

/-- The lowest 62 bits of any number. -/
theorem low62 (a : Int) : ∃ x : Nat, bits .and .i64 a 4611686018427387903 = (x : Int) ∧ x < 4611686018427387904 := by
  have h : (BitVec.ofInt 64 a &&& BitVec.ofInt 64 4611686018427387903).toNat ≤ 4611686018427387903 := by
    rw [BitVec.toNat_and]
    exact Nat.le_trans Nat.and_le_right (by decide)
  refine ⟨(BitVec.ofInt 64 a &&& BitVec.ofInt 64 4611686018427387903).toNat, ?_, by omega⟩
  show IntKind.i64.wrap ((BitVec.ofInt 64 a &&& BitVec.ofInt 64 4611686018427387903).toNat : Int) = _
  exact IntWalk.i64_in _ (by omega)
end Go.Proofs.YtflomllfehoedaaDoor
