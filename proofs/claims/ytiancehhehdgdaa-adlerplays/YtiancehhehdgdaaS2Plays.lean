/-
  The law AdlerPlays, walked: for every text and number it returns true and changes nothing that was there. Condition: the text's length is one that Go has.
-/
import Derived.Test.YtiancehhehdgdaaS2Four
namespace Go.Proofs.Ytiancehhehdgdaa
open Go.RowKit

theorem four_list (x : Int) : (four x).data.toList = [UInt8.ofNat (x / 16777216).toNat, UInt8.ofNat (x / 65536 % 256).toNat, UInt8.ofNat (x / 256 % 256).toNat, UInt8.ofNat (x % 256).toNat] := rfl
theorem ofNat_back (n : Int) (h0 : 0 ≤ n) (h1 : n ≤ 255) : ((UInt8.ofNat n.toNat).toNat : Int) = n := by
  have : (UInt8.ofNat n.toNat).toNat = n.toNat := by simp; omega
  omega
theorem num_four (x : Int) (s : ByteArray) (h0 : 0 ≤ x) (h1 : x < 4294967296) : numK (four x ++ s) 4 = x := by
  simp only [numK, byteAt, bytes_add, four_list, List.cons_append, List.getD_cons_zero, List.getD_cons_succ]
  rw [ofNat_back _ (by omega) (by omega), ofNat_back _ (by omega) (by omega), ofNat_back _ (by omega) (by omega), ofNat_back _ (by omega) (by omega)]
  omega
theorem num_none : numK ⟨#[]⟩ 4 = 0 := by decide
theorem num_three (x : Int) (h0 : 0 ≤ x) (h1 : x < 4294967296) : numK ((four x).extract 0 3) 4 = x - x % 256 := by
  have e : ((four x).extract 0 3).data.toList = [UInt8.ofNat (x / 16777216).toNat, UInt8.ofNat (x / 65536 % 256).toNat, UInt8.ofNat (x / 256 % 256).toNat] := rfl
  simp only [numK, byteAt, e, List.getD_cons_zero, List.getD_cons_succ, List.getD_nil]
  rw [ofNat_back _ (by omega) (by omega), ofNat_back _ (by omega) (by omega), ofNat_back _ (by omega) (by omega)]
  have : ((0 : UInt8).toNat : Int) = 0 := rfl
  omega

set_option maxHeartbeats 1000000 in
theorem lawPlays_any (s : ByteArray) (x : Int) (w : World) (hs : s.size ≤ maxLen) (h0 : 0 ≤ x) (h1 : x < 4294967296) :
    Calls Try.prog 5 #[.string s, .int .u32 x] w fun e w' => e = .returned (.bool true) ∧ Below w.heap.size w w' := by
  unfold maxLen at hs
  by_cases hl : 20000 < s.size
  · go_enter Try.func5, Try.ntmps5
    go_wp2_with (refine (awake_any _).mono ?_; rintro e w1 ⟨rfl, rfl⟩)
    go_ret
    exact ⟨rfl, Below.refl _ _⟩
  · have H1 := Lib.hid (num_four x s h0 h1)
    have H2 := Lib.hid num_none
    have H3 := Lib.hid (num_three x h0 h1)
    have hz := four_size x
    go_enter Try.func5, Try.ntmps5
    go_wp2_with fail
    refine (awake_any _).mono ?_
    rintro e w1 ⟨rfl, rfl⟩
    go_wp2_with fail
    refine (sum_any _ _ (by unfold maxLen; omega)).mono ?_
    rintro e w1 ⟨rfl, rfl⟩
    go_wp2_with fail
    refine (rsum_any _ _ (by omega)).mono ?_
    rintro e w1 ⟨rfl, rfl⟩
    go_wp2_with fail
    refine (four_any _ _ h0 h1).mono ?_
    rintro e w1 ⟨rfl, hb⟩
    have HB := Lib.hid hb
    clear hb
    go_wp2_with fail
    refine (rfour_any _ _ h0 h1).mono ?_
    rintro e w2 ⟨rfl, hb⟩
    have HB2 := Lib.hid (HB.out.trans (hb.mono HB.out.size))
    clear hb HB
    go_wp2_with fail
    refine (four_any _ _ h0 h1).mono ?_
    rintro e w3 ⟨rfl, hb⟩
    have HB3 := Lib.hid (HB2.out.trans (hb.mono HB2.out.size))
    clear hb HB2
    go_wp2_with fail
    refine (number_any _ _).mono ?_
    rintro e w4 ⟨rfl, rfl⟩
    rw [H1.out]
    go_wp2_with fail
    refine (number_any _ _).mono ?_
    rintro e w4 ⟨rfl, rfl⟩
    rw [H2.out]
    go_wp2_with fail
    refine (four_any _ _ h0 h1).mono ?_
    rintro e w4 ⟨rfl, hb⟩
    have HB4 := Lib.hid (HB3.out.trans (hb.mono HB3.out.size))
    clear hb HB3
    go_wp2_with fail
    refine (number_any _ _).mono ?_
    rintro e w5 ⟨rfl, rfl⟩
    rw [H3.out]
    go_wp2
    go_ret
    exact ⟨rfl, HB4.out⟩
end Go.Proofs.Ytiancehhehdgdaa
