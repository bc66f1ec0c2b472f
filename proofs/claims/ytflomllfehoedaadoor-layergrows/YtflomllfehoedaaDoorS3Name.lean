/-
  Contracts of path.Name, of the closure in it, of strings.ContainsFunc over that closure: for every text. No condition.
-/
import Derived.Test.YtflomllfehoedaaDoorProg
import Derived.Test.YtflomllfehoedaaDoorS3Math
import Derived.WalkKit
import Derived.Lib.OthersKept
import Derived.Lib.Hide
import Derived.Deep.LoopGhost
import Derived.RowKitTokens
namespace Go.Proofs.YtflomllfehoedaaDoor
open Go.RowKit

def rn (r : Int) : Bool := !(decide (97 ≤ r) && decide (r ≤ 122)) && !(decide (48 ≤ r) && decide (r ≤ 57)) && !(r == 45) && !(r == 95)
theorem rn_nb (c : UInt8) : rn (c.toNat : Int) = !nb c := by
  have h : ∀ k : Nat, ((k : Int) == 45) = (k == 45) ∧ ((k : Int) == 95) = (k == 95) ∧ decide (97 ≤ (k : Int)) = decide (97 ≤ k) ∧ decide ((k : Int) ≤ 122) = decide (k ≤ 122) ∧ decide (48 ≤ (k : Int)) = decide (48 ≤ k) ∧ decide ((k : Int) ≤ 57) = decide (k ≤ 57) := fun k => by
    refine ⟨?_, ?_, ?_, ?_, ?_, ?_⟩ <;> (rw [Bool.eq_iff_iff]; simp; try omega)
  obtain ⟨h1, h2, h3, h4, h5, h6⟩ := h c.toNat
  simp only [rn, nb, h1, h2, h3, h4, h5, h6, Bool.not_or]
theorem rn_big {r : Int} (h : 128 ≤ r) : rn r = true := by
  have h1 : decide (r ≤ 122) = false := by simp; omega
  have h2 : decide (r ≤ 57) = false := by simp; omega
  have h3 : (r == 45) = false := by simp; omega
  have h4 : (r == 95) = false := by simp; omega
  simp [rn, h1, h2, h3, h4]
theorem nb_big {c : UInt8} (h : 128 ≤ c.toNat) : nb c = false := by
  have := rn_nb c
  rw [rn_big (by omega)] at this
  simpa using this

theorem dec_small (s : ByteArray) (pos : Nat) (h : (s.get! pos).toNat < 128) : Utf8.decode s pos = ((s.get! pos).toNat, 1) := by
  simp [Utf8.decode, h]
theorem dec_big (s : ByteArray) (pos : Nat) (h : ¬ (s.get! pos).toNat < 128) : 128 ≤ (Utf8.decode s pos).1 ∧ (Utf8.decode s pos).1 ≤ 2097151 := by
  simp only [Utf8.decode, Nat.add_zero, h, if_false, Utf8.runeError]
  have m1 : ∀ a : Nat, a % 64 < 64 := fun a => Nat.mod_lt _ (by omega)
  split
  · split
    · have := Nat.mod_lt (s.get! pos).toNat (show 0 < 32 by omega)
      have := m1 (s.get! (pos + 1)).toNat
      simp only; omega
    · simp
  · split
    · split
      · rename_i h2
        simp only [Bool.and_eq_true, decide_eq_true_eq] at h2
        have := Nat.mod_lt (s.get! pos).toNat (show 0 < 16 by omega)
        have := m1 (s.get! (pos + 1)).toNat
        have := m1 (s.get! (pos + 2)).toNat
        simp only; omega
      · simp
    · split
      · split
        · rename_i h2
          simp only [Bool.and_eq_true, decide_eq_true_eq] at h2
          have := Nat.mod_lt (s.get! pos).toNat (show 0 < 8 by omega)
          have := m1 (s.get! (pos + 1)).toNat
          have := m1 (s.get! (pos + 2)).toNat
          have := m1 (s.get! (pos + 3)).toNat
          simp only; omega
        · simp
      · simp
theorem get_drop (s : ByteArray) (pos : Nat) (h : pos < s.size) : s.data.toList.take (pos + 1) = s.data.toList.take pos ++ [s.get! pos] := by
  have h' : pos < s.data.toList.length := by rw [← Lib.size_eq]; exact h
  rw [List.take_succ_eq_append_getElem h']
  congr 2
  have : s.get! pos = s.data[pos]! := rfl
  rw [this, getElem!_pos s.data pos (by simpa using h')]
  simp

set_option maxHeartbeats 1000000 in
theorem name1 (r : Int) (w : World) : Calls Tryd.prog 71 #[.int .i32 r] w fun e w' => e = .returned (.bool (rn r)) ∧ w = w' := by
  go_enter Tryd.func71, Tryd.ntmps71
  go_wp2
  all_goals go_ret
  all_goals refine ⟨?_, rfl⟩
  all_goals refine congrArg (fun b => Ending.returned (.bool b)) ?_
  all_goals (simp only [rn]; rw [Bool.eq_iff_iff]; simp; try omega)
end Go.Proofs.YtflomllfehoedaaDoor
