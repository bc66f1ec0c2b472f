/-
  Contracts of package blob's Pages and Right, and of package code's Num at any number (of one that has no bytes: nothing). Conditions: as each says.
-/
import Derived.Test.YtpimclhdimcioaaDoorS4Num
import Derived.Test.YtpimclhdimcioaaDoorS7Math
import Derived.IntWalk
namespace Go.Proofs.YtpimclhdimcioaaDoor
open Go.RowKit

/-- How many sectors a text of n bytes takes; 0 of another size. -/
def pgs (n : Int) : Int := if n < 1 ∨ 16384 < n then 0 else (n + 63) / 64
theorem pgs_bd (n : Int) : 0 ≤ pgs n ∧ pgs n ≤ 256 := by unfold pgs; split <;> omega
theorem pgs_nat {n : Nat} (h1 : 1 ≤ n) (h2 : n ≤ 16384) : pgs (n : Int) = (npg n : Int) := by
  unfold pgs npg
  rw [if_neg (by omega)]
  omega
theorem pages_any (n : Int) (w : World) : Calls Tryd.prog 9 #[.int .i64 n] w fun e w' => e = .returned (.int .i64 (pgs n)) ∧ w = w' := by
  by_cases h1 : n < 1
  · have e : pgs n = 0 := if_pos (.inl h1)
    rw [e]
    go_enter Tryd.func9, Tryd.ntmps9
    go_wp2
    go_ret
    exact ⟨rfl, rfl⟩
  · by_cases h2 : 16384 < n
    · have e : pgs n = 0 := if_pos (.inr h2)
      rw [e]
      go_enter Tryd.func9, Tryd.ntmps9
      go_wp2
      go_ret
      exact ⟨rfl, rfl⟩
    · obtain ⟨m, rfl⟩ : ∃ m : Nat, n = (m : Int) := ⟨n.toNat, by omega⟩
      have e : pgs (m : Int) = ((m : Int) + 63) / 64 := if_neg (by omega)
      rw [e]
      have hw1 : IntKind.i64.wrap ((m : Int) + 64) = (m : Int) + 64 := IntWalk.i64_in _ (by omega)
      have hw2 : IntKind.i64.wrap ((m : Int) + 64 - 1) = (m : Int) + 63 := by
        rw [show (m : Int) + 64 - 1 = (m : Int) + 63 by omega]
        exact IntWalk.i64_in _ (by omega)
      go_enter Tryd.func9, Tryd.ntmps9
      go_wp2
      go_ret
      exact ⟨by simp, rfl⟩

/-- A text's place as a value. -/
abbrev refV (k n s : Int) : Value := .agg #[.int .i64 k, .int .i64 n, .int .u32 s]
/-- Can a text of n bytes lie there, on a disk of so many sectors? -/
def rt (k n size : Int) : Bool := decide (0 < pgs n) && decide (pgs n ≤ size) && decide (0 ≤ k) && decide (k ≤ size - pgs n)
theorem right_any (k n s size : Int) (hs : size ≤ 9223372036854775807) (w : World) : Calls Tryd.prog 13 #[refV k n s, .int .i64 size] w fun e w' => e = .returned (.bool (rt k n size)) ∧ Below w.heap.size w w' := by
  obtain ⟨p, hp⟩ : ∃ p, pgs n = p := ⟨_, rfl⟩
  have hp2 := pgs_bd n
  have HP := Lib.hid hp
  have hrt : rt k n size = decide (0 < p ∧ p ≤ size ∧ 0 ≤ k ∧ k ≤ size - p) := by
    unfold rt
    rw [hp]
    simp [Bool.and_assoc]
  have HRT := Lib.hid hrt
  rw [hp] at hp2
  clear hp hrt
  by_cases h1 : 0 < p
  · by_cases h2 : p ≤ size
    · have hw : IntKind.i64.wrap (size - p) = size - p := IntWalk.i64_in _ (by omega)
      by_cases h3 : 0 ≤ k
      · by_cases h4 : k ≤ size - p
        · have e : rt k n size = true := by rw [HRT.out]; exact decide_eq_true (by omega)
          rw [e]
          clear e HRT
          go_enter Tryd.func13, Tryd.ntmps13
          go_wp2_with fail
          refine (pages_any n _).mono ?_
          rintro e w2 ⟨rfl, rfl⟩
          rw [HP.out]
          go_wp2
          go_ret
          exact ⟨rfl, (Below.refl _ _).alloc (Nat.le_refl _) _⟩
        · have e : rt k n size = false := by rw [HRT.out]; exact decide_eq_false (by omega)
          rw [e]
          clear e HRT
          go_enter Tryd.func13, Tryd.ntmps13
          go_wp2_with fail
          refine (pages_any n _).mono ?_
          rintro e w2 ⟨rfl, rfl⟩
          rw [HP.out]
          go_wp2
          go_ret
          exact ⟨by simp; omega, (Below.refl _ _).alloc (Nat.le_refl _) _⟩
      · have e : rt k n size = false := by rw [HRT.out]; exact decide_eq_false (by omega)
        rw [e]
        clear e HRT
        go_enter Tryd.func13, Tryd.ntmps13
        go_wp2_with fail
        refine (pages_any n _).mono ?_
        rintro e w2 ⟨rfl, rfl⟩
        rw [HP.out]
        go_wp2
        go_ret
        exact ⟨rfl, (Below.refl _ _).alloc (Nat.le_refl _) _⟩
    · have e : rt k n size = false := by rw [HRT.out]; exact decide_eq_false (by omega)
      rw [e]
      clear e HRT
      go_enter Tryd.func13, Tryd.ntmps13
      go_wp2_with fail
      refine (pages_any n _).mono ?_
      rintro e w2 ⟨rfl, rfl⟩
      rw [HP.out]
      go_wp2
      go_ret
      exact ⟨rfl, (Below.refl _ _).alloc (Nat.le_refl _) _⟩
  · have e : rt k n size = false := by rw [HRT.out]; exact decide_eq_false (by omega)
    rw [e]
    clear e HRT
    go_enter Tryd.func13, Tryd.ntmps13
    go_wp2_with fail
    refine (pages_any n _).mono ?_
    rintro e w2 ⟨rfl, rfl⟩
    rw [HP.out]
    go_wp2
    go_ret
    exact ⟨rfl, (Below.refl _ _).alloc (Nat.le_refl _) _⟩

/-- A number's bytes; nothing of one that has none. -/
def numI (n : Int) : ByteArray := if 0 ≤ n ∧ n ≤ 4611686018427387904 then numB n.toNat else ⟨#[]⟩
theorem numI_nat {n : Nat} (h : n ≤ 4611686018427387904) : numI (n : Int) = numB n := by
  unfold numI
  rw [if_pos (by omega)]
  rfl
theorem numI_size (n : Int) : (numI n).size ≤ 9 := by
  unfold numI
  split
  · exact numB_size_nine (by omega)
  · exact Nat.zero_le _
theorem numI_any (n : Int) (w : World) : Calls Tryd.prog 31 #[.int .i64 n] w fun e w' => e = .returned (.string (numI n)) ∧ Below w.heap.size w w' := by
  by_cases h : 0 ≤ n ∧ n ≤ 4611686018427387904
  · obtain ⟨m, rfl⟩ : ∃ m : Nat, n = (m : Int) := ⟨n.toNat, by omega⟩
    rw [numI_nat (by omega)]
    exact num_any m (by omega) w
  · have e : numI n = ⟨#[]⟩ := if_neg h
    rw [e]
    by_cases h0 : n < 0
    · go_enter Tryd.func31, Tryd.ntmps31
      go_wp2
      go_ret
      exact ⟨rfl, Below.refl _ _⟩
    · have h1 : (4611686018427387904 : Int) < n := by omega
      go_enter Tryd.func31, Tryd.ntmps31
      go_wp2
      go_ret
      exact ⟨rfl, Below.refl _ _⟩
end Go.Proofs.YtpimclhdimcioaaDoor
