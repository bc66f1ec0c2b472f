/-
  The contracts of package adler's Both and of the statements' awake; the laws AdlerBoth and AdlerThree, walked: for all texts they return true and leave memory as it was. Condition: a text's length is one that Go has (for AdlerThree: within the form's own reach).
-/
import Derived.Test.YtiancehhehdgdaaS2Sum
import Derived.IntWalk
namespace Go.Proofs.Ytiancehhehdgdaa
open Go.RowKit

set_option maxHeartbeats 1000000 in
theorem both_any (x y n : Int) (w : World) (hx0 : 0 ≤ x) (hx1 : x < 4294967296) (hy0 : 0 ≤ y) (hy1 : y < 4294967296) (hn0 : 0 ≤ n) (hn1 : n ≤ 9223372036854775807) :
    Calls Try.prog 9 #[.int .u32 x, .int .u32 y, .int .i64 n] w fun e w' => e = .returned (.int .u32 (bothI x y n)) ∧ w = w' := by
  have hm0 : 0 ≤ (x % 65536 + 65521 - 1) % 65521 * (n % 65521) := Int.mul_nonneg (by omega) (by omega)
  have hm1 : (x % 65536 + 65521 - 1) % 65521 * (n % 65521) ≤ 65520 * 65520 := Int.mul_le_mul (by omega) (by omega) (by omega) (by omega)
  go_enter Try.func9, Try.ntmps9
  go_wp2_with fail
  refine (halves_any _ _ hx0 hx1).mono ?_
  rintro e w1 ⟨rfl, rfl⟩
  go_wp2_with fail
  refine (halves_any _ _ hy0 hy1).mono ?_
  rintro e w1 ⟨rfl, rfl⟩
  go_wp2_with fail
  refine (join_any _ _ _ (by omega) (by omega) (by omega) (by omega)).mono ?_
  rintro e w1 ⟨rfl, rfl⟩
  go_wp2
  go_ret
  exact ⟨ret_int (by unfold bothI; omega), rfl⟩

/-- Both of two texts' sums. -/
theorem both_adl (s t : List UInt8) (n : Int) (w : World) (hn : n = (t.length : Int)) (hn1 : n ≤ 9223372036854775807) :
    Calls Try.prog 9 #[.int .u32 (adl s), .int .u32 (adl t), .int .i64 n] w fun e w' => e = .returned (.int .u32 (adl (s ++ t))) ∧ w = w' := by
  have h := both_any (adl s) (adl t) n w (adl_bd s).1 (adl_bd s).2 (adl_bd t).1 (adl_bd t).2 (by omega) hn1
  rw [hn, bothI_adl] at h
  rw [hn]
  exact h

theorem wikipedia : adl [87, 105, 107, 105, 112, 101, 100, 105, 97] = 300286872 := by decide
set_option maxHeartbeats 1000000 in
theorem awake_any (w : World) : Calls Try.prog 8 #[] w fun e w' => e = .returned (.bool true) ∧ w = w' := by
  have h := wikipedia
  go_enter Try.func8, Try.ntmps8
  go_wp2_with fail
  refine (sum_any _ _ (by decide)).mono ?_
  rintro e w1 ⟨rfl, rfl⟩
  go_wp2
  go_ret
  exact ⟨rfl, rfl⟩

theorem bytes_add (s t : ByteArray) : (s ++ t).data.toList = s.data.toList ++ t.data.toList := by simp [ByteArray.data_append]
theorem bytes_len (s : ByteArray) : s.data.toList.length = s.size := by simp

set_option maxHeartbeats 1000000 in
theorem lawBoth_any (s t : ByteArray) (w : World) (hs : s.size ≤ maxLen) (ht : t.size ≤ maxLen) :
    Calls Try.prog 3 #[.string s, .string t] w fun e w' => e = .returned (.bool true) ∧ w = w' := by
  unfold maxLen at hs ht
  by_cases h1 : 20000 < s.size
  · go_enter Try.func3, Try.ntmps3
    go_wp2_with (refine (awake_any _).mono ?_; rintro e w1 ⟨rfl, rfl⟩)
    go_ret
    exact ⟨rfl, rfl⟩
  · by_cases h2 : 20000 < t.size
    · go_enter Try.func3, Try.ntmps3
      go_wp2_with (refine (awake_any _).mono ?_; rintro e w1 ⟨rfl, rfl⟩)
      go_ret
      exact ⟨rfl, rfl⟩
    · have HA := Lib.hid (bytes_add s t)
      have HL := Lib.hid (bytes_len t)
      go_enter Try.func3, Try.ntmps3
      go_wp2_with fail
      refine (awake_any _).mono ?_
      rintro e w1 ⟨rfl, rfl⟩
      go_wp2_with fail
      refine (sum_any _ _ (by unfold maxLen; omega)).mono ?_
      rintro e w1 ⟨rfl, rfl⟩
      go_wp2_with fail
      refine (sum_any _ _ (by unfold maxLen; omega)).mono ?_
      rintro e w1 ⟨rfl, rfl⟩
      go_wp2_with fail
      refine (both_adl _ _ _ _ (by rw [HL.out]) (by omega)).mono ?_
      rintro e w1 ⟨rfl, rfl⟩
      go_wp2_with fail
      refine (sum_any _ _ (by unfold maxLen; simp; omega)).mono ?_
      rintro e w1 ⟨rfl, rfl⟩
      rw [HA.out]
      go_wp2
      go_ret
      exact ⟨rfl, rfl⟩

set_option maxHeartbeats 1000000 in
theorem lawThree_any (s t u : ByteArray) (w : World) (hs : s.size ≤ 140737488351232) (ht : t.size ≤ 140737488351232) (hu : u.size ≤ 140737488351232) :
    Calls Try.prog 6 #[.string s, .string t, .string u] w fun e w' => e = .returned (.bool true) ∧ w = w' := by
  by_cases h1 : 20000 < s.size + t.size + u.size
  · have h2 : (20000 : Int) < (s.size : Int) + (t.size : Int) + (u.size : Int) := by omega
    go_enter Try.func6, Try.ntmps6
    go_wp2_with (refine (awake_any _).mono ?_; rintro e w1 ⟨rfl, rfl⟩)
    go_ret
    exact ⟨rfl, rfl⟩
  · have h2 : ¬ (20000 : Int) < (s.size : Int) + (t.size : Int) + (u.size : Int) := by omega
    have HA := Lib.hid (show (s ++ t ++ u).data.toList = s.data.toList ++ t.data.toList ++ u.data.toList by rw [bytes_add, bytes_add])
    have HL := Lib.hid (bytes_len t)
    have HM := Lib.hid (bytes_len u)
    go_enter Try.func6, Try.ntmps6
    go_wp2_with fail
    refine (awake_any _).mono ?_
    rintro e w1 ⟨rfl, rfl⟩
    go_wp2_with fail
    refine (sum_any _ _ (by unfold maxLen; omega)).mono ?_
    rintro e w1 ⟨rfl, rfl⟩
    go_wp2_with fail
    refine (sum_any _ _ (by unfold maxLen; omega)).mono ?_
    rintro e w1 ⟨rfl, rfl⟩
    go_wp2_with fail
    refine (sum_any _ _ (by unfold maxLen; omega)).mono ?_
    rintro e w1 ⟨rfl, rfl⟩
    go_wp2_with fail
    refine (both_adl _ _ _ _ (by rw [HL.out]) (by omega)).mono ?_
    rintro e w1 ⟨rfl, rfl⟩
    go_wp2_with fail
    refine (both_adl _ _ _ _ (by rw [HM.out]) (by omega)).mono ?_
    rintro e w1 ⟨rfl, rfl⟩
    go_wp2_with fail
    refine (both_adl _ _ _ _ (by rw [HM.out]) (by omega)).mono ?_
    rintro e w1 ⟨rfl, rfl⟩
    go_wp2_with fail
    refine (both_adl _ _ _ _ (by rw [List.length_append, HL.out, HM.out]; omega) (by omega)).mono ?_
    rintro e w1 ⟨rfl, rfl⟩
    rw [← List.append_assoc]
    go_wp2_with fail
    refine (sum_any _ _ (by unfold maxLen; simp; omega)).mono ?_
    rintro e w1 ⟨rfl, rfl⟩
    rw [HA.out]
    go_wp2_with fail
    refine (sum_any _ _ (by decide)).mono ?_
    rintro e w1 ⟨rfl, rfl⟩
    go_wp2_with fail
    refine (both_adl _ _ 0 _ rfl (by decide)).mono ?_
    rintro e w1 ⟨rfl, rfl⟩
    rw [List.append_nil]
    go_wp2
    go_ret
    exact ⟨rfl, rfl⟩
end Go.Proofs.Ytiancehhehdgdaa
