/-
  The law AdlerOne, walked: for every text, place and byte it returns true and changes nothing that was there. Condition: the text's length is one that Go has.
-/
import Derived.Test.YtiancehhehdgdaaS2Both
import Derived.Test.YtiancehhehdgdaaBytesOf
namespace Go.Proofs.Ytiancehhehdgdaa
open Go.RowKit

theorem list_size (l : List UInt8) : (⟨l.toArray⟩ : ByteArray).size = l.length := rfl
theorem ret_bool {a b : Bool} (h : a = b) : Ending.returned (.bool a) = .returned (.bool b) := by rw [h]
theorem one_math (l : List UInt8) (i : Nat) (c : UInt8) (h : i < l.length) : (adl (l.set i (l[i] ^^^ c)) == adl l) = ((c.toNat : Int) == 0) := by
  rw [Bool.eq_iff_iff, beq_iff_eq, beq_iff_eq, adl_set l i _ h]
  constructor
  · intro e
    have h1 : l[i] ^^^ (l[i] ^^^ c) = l[i] ^^^ l[i] := by rw [e]
    rw [← UInt8.xor_assoc, UInt8.xor_self, UInt8.zero_xor] at h1
    rw [h1]; rfl
  · intro e
    have h1 : c = 0 := UInt8.toNat_inj.1 (by simpa using e)
    rw [h1, UInt8.xor_zero]

set_option maxHeartbeats 1000000 in
theorem lawOne_any (s : ByteArray) (n : Nat) (c : UInt8) (w : World) (hs : s.size ≤ maxLen) (hn : n < 65536) :
    Calls Try.prog 4 #[.string s, .int .u16 n, .int .u8 (c.toNat : Int)] w fun e w' => e = .returned (.bool true) ∧ Below w.heap.size w w' := by
  unfold maxLen at hs
  have hc0 := byte_lt c
  by_cases h1 : 20000 < s.size
  · go_enter Try.func4, Try.ntmps4
    go_wp2_with (refine (awake_any _).mono ?_; rintro e w1 ⟨rfl, rfl⟩)
    go_ret
    exact ⟨rfl, Below.refl _ _⟩
  · by_cases h2 : s.size = 0
    · have h3 : ((s.size : Int) == 0) = true := by simp [h2]
      go_enter Try.func4, Try.ntmps4
      go_wp2_with (refine (awake_any _).mono ?_; rintro e w1 ⟨rfl, rfl⟩)
      go_ret
      exact ⟨rfl, Below.refl _ _⟩
    · have h3 : ((s.size : Int) == 0) = false := by simp [h2]
      have h4 : 0 < s.size := by omega
      have h5 : (0 : Int) < (s.size : Int) := by omega
      have hi : n % s.size < s.data.toList.length := by rw [bytes_len]; exact Nat.mod_lt _ h4
      have hi2 : n % s.size < s.size := Nat.mod_lt _ h4
      obtain ⟨cap, w1, c1, hb, hh⟩ := conv_in s w
      have HQ := Lib.hid (one_math s.data.toList (n % s.size) c hi)
      obtain ⟨hc, hf⟩ := hh.2 _ hi
      have hx := xor_u8 s.data.toList[n % s.size] c
      have HS := Lib.hid (hh.set _ hi (s.data.toList[n % s.size] ^^^ c))
      have c2 := conv_back _ w.heap.size cap _ s.size (by simp) HS.out
      have HB := Lib.hid (hb.setCell (p := ⟨w.heap.size, n % s.size, none⟩) (Nat.le_refl _) (.int .u8 ((s.data.toList[n % s.size] ^^^ c).toNat : Int)))
      clear hb hh h2
      generalize s.data.toList[n % s.size] = x at *
      generalize hy : x ^^^ c = y at *
      clear hy
      go_enter Try.func4, Try.ntmps4
      go_wp2_with fail
      refine (awake_any _).mono ?_
      rintro e w1 ⟨rfl, rfl⟩
      go_wp2_with fail
      refine (sum_any _ _ (by rw [list_size, List.length_set, bytes_len]; unfold maxLen; omega)).mono ?_
      rintro e w1 ⟨rfl, rfl⟩
      clear c1 c2 hc hf hx
      go_wp2_with fail
      refine (sum_any _ _ (by unfold maxLen; omega)).mono ?_
      rintro e w1 ⟨rfl, rfl⟩
      go_wp2
      go_ret
      exact ⟨ret_bool (by rw [HQ.out]; exact beq_self_eq_true _), HB.out⟩
theorem one_end (s : ByteArray) (n b : Int) (w : World) (hs : s.size ≤ maxLen) (hn : 0 ≤ n ∧ n ≤ 65535) (hb : 0 ≤ b ∧ b ≤ 255) :
    Calls Try.prog 4 #[.string s, .int .u16 n, .int .u8 b] w fun e w' => e = .returned (.bool true) ∧ Below w.heap.size w w' := by
  have e1 : n = (n.toNat : Int) := by omega
  have e2 : b = ((UInt8.ofNat b.toNat).toNat : Int) := by
    have : (UInt8.ofNat b.toNat).toNat = b.toNat := by simp; omega
    omega
  rw [e1, e2]
  exact lawOne_any s n.toNat (UInt8.ofNat b.toNat) w hs (by omega)
end Go.Proofs.Ytiancehhehdgdaa
