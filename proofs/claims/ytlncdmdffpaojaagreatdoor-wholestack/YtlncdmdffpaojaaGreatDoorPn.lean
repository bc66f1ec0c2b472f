/-
  The contracts of package adler's join, halves, Sum and Both: what each answers, for every argument. They leave memory as it was. No condition but that a text's length is one that Go has.
  The contracts of package adler's Both and of the statements' awake; the laws AdlerBoth and AdlerThree, walked: for all texts they return true and leave memory as it was. Condition: a text's length is one that Go has (for AdlerThree: within the form's own reach).
  The contracts of package adler's Four and Number, and of the document's own Sum and Four: what each answers, for every argument; what was in memory stays. Conditions: a number is one of 32 bits; the document's Sum: a text of at most 100000 bytes.
  What the statements of the whole share: the published sum of a text. No condition.
-/
import Derived.Test.YtlncdmdffpaojaaGreatDoorProg
import Derived.Test.YtlncdmdffpaojaaGreatDoorPb
import Derived.WalkKit
import Derived.Lib.Hide
import Derived.Deep.LoopGhost
import Derived.Laws.BitsLemmas
import Derived.IntWalk
import Derived.Test.YtlncdmdffpaojaaGreatDoorConv
import Derived.Laws.BytesArg
namespace Go.Proofs.YtlncdmdffpaojaaGreatDoor
open Go.RowKit

theorem wraps_u32 (n : Int) (h₀ : 0 ≤ n) (h₁ : n < 2 ^ 32) : IntKind.u32.wrap n = n := by rw [IntKind.wrap_u32]; omega
theorem u32_or16 (x y : Int) (hx₀ : 0 ≤ x) (hx : x % 65536 = 0) (hx₁ : x < 4294967296) (h₀ : 0 ≤ y) (h₁ : y < 65536) : bits .or .u32 x y = x + y :=
  bits_join .u32 32 (by decide) wraps_u32 16 x y hx₀ hx hx₁ h₀ h₁ (by omega)
theorem u32_or8 (x y : Int) (hx₀ : 0 ≤ x) (hx : x % 256 = 0) (hx₁ : x < 4294967296) (h₀ : 0 ≤ y) (h₁ : y < 256) : bits .or .u32 x y = x + y :=
  bits_join .u32 32 (by decide) wraps_u32 8 x y hx₀ hx hx₁ h₀ h₁ (by omega)
theorem u32_and16 (x : Int) (h₀ : 0 ≤ x) (h₁ : x < 4294967296) : bits .and .u32 x 65535 = x % 65536 := bits_mask .u32 32 (by decide) wraps_u32 16 (by decide) x h₀ h₁
theorem ret_int {k : IntKind} {a b : Int} (h : a = b) : Ending.returned (.int k a) = .returned (.int k b) := by rw [h]
theorem val_int {k : IntKind} {a b : Int} (h : a = b) : Value.int k a = .int k b := by rw [h]
theorem take_snoc (s : ByteArray) (k : Nat) (h : k < s.size) : s.data.toList.take (k + 1) = s.data.toList.take k ++ [s[k]] := by
  rw [List.take_succ_eq_append_getElem (by simpa using h)]; rfl

set_option maxHeartbeats 1000000 in
theorem join_any (a b : Int) (w : World) (ha0 : 0 ≤ a) (ha1 : a < 65536) (hb0 : 0 ≤ b) (hb1 : b < 65536) :
    Calls Tryz.prog 33 #[.int .u32 a, .int .u32 b] w fun e w' => e = .returned (.int .u32 (b * 65536 + a)) ∧ w = w' := by
  go_enter Tryz.func33, Tryz.ntmps33
  go_wp2
  go_ret
  exact ⟨ret_int (u32_or16 _ _ (by omega) (by omega) (by omega) ha0 ha1), rfl⟩
set_option maxHeartbeats 1000000 in
theorem sum_any (s : ByteArray) (w : World) (hs : s.size ≤ maxLen) :
    Calls Tryz.prog 14 #[.string s] w fun e w' => e = .returned (.int .u32 (adl s.data.toList)) ∧ w = w' := by
  unfold maxLen at hs
  go_enter Tryz.func14, Tryz.ntmps14
  go_wp2
  go_loopg [3, 4, 8] s.size (fun g a b i wr => ∃ (k : Nat) (x y : Int), Hid (k + g = s.size ∧ w = wr) ∧ a = .int .u32 x ∧ b = .int .u32 y ∧ i = .int .i64 (k : Int) ∧ Hid (x = sa (s.data.toList.take k) % 65521 ∧ y = sb (s.data.toList.take k) % 65521))
  case atStart => exact ⟨0, 1, 0, ⟨by omega, rfl⟩, rfl, rfl, rfl, ⟨by simp [sa, bS], by simp [sb, bW]⟩⟩
  case round =>
    obtain ⟨k, x, y, HK, rfl, rfl, rfl, HC⟩ := hrel
    have hx0 : 0 ≤ x := by have := HC.out.1; omega
    have hx1 : x < 65521 := by have := HC.out.1; omega
    have hy0 : 0 ≤ y := by have := HC.out.2; omega
    have hy1 : y < 65521 := by have := HC.out.2; omega
    by_cases hlt : k < s.size
    · have hc := byte_lt s[k]
      have HX : Hid ((x + (s[k].toNat : Int)) % 65521 = sa (s.data.toList.take (k + 1)) % 65521 ∧ (y + (x + (s[k].toNat : Int)) % 65521) % 65521 = sb (s.data.toList.take (k + 1)) % 65521) := by
        have h1 := sa_step (s.data.toList.take k) s[k]
        have h2 := sb_step (s.data.toList.take k) s[k]
        rw [← take_snoc s k hlt, ← HC.out.1] at h1
        rw [← take_snoc s k hlt, ← HC.out.2] at h2
        exact ⟨h1, by rw [h1]; exact h2⟩
      go_wp2
      go_roundg (gk - 1)
      case measure => have := HK.out; omega
      case rel => exact ⟨k + 1, _, _, ⟨by have := HK.out; omega, HK.out.2⟩, rfl, rfl, by go_num, HX.out⟩
    · have HE : Hid (y * 65536 + x = adl s.data.toList) := by
        have h := HC.out
        rw [List.take_of_length_le (by simp; omega)] at h
        unfold adl
        exact (by rw [h.1, h.2] : y * 65536 + x = _)
      go_wp2_with fail
      refine (join_any _ _ _ hx0 (by omega) hy0 (by omega)).mono ?_
      rintro e w1 ⟨rfl, rfl⟩
      go_wp2
      go_ret
      exact ⟨ret_int HE.out, HK.out.2⟩
end Go.Proofs.YtlncdmdffpaojaaGreatDoor

namespace Go.Proofs.YtlncdmdffpaojaaGreatDoor
open Go.RowKit

theorem wikipedia : adl [87, 105, 107, 105, 112, 101, 100, 105, 97] = 300286872 := by decide
theorem bytes_add (s t : ByteArray) : (s ++ t).data.toList = s.data.toList ++ t.data.toList := by simp [ByteArray.data_append]
theorem bytes_len (s : ByteArray) : s.data.toList.length = s.size := by simp

end Go.Proofs.YtlncdmdffpaojaaGreatDoor

namespace Go.Proofs.YtlncdmdffpaojaaGreatDoor
open Go.RowKit

/-- A number's four bytes, the highest first. -/
def four (x : Int) : ByteArray := strOfNums [x / 16777216, x / 65536 % 256, x / 256 % 256, x % 256]
theorem four_size (x : Int) : (four x).size = 4 := by unfold four; rw [strOfNums_size]; rfl

set_option maxHeartbeats 1000000 in
theorem four_any (x : Int) (w : World) (h0 : 0 ≤ x) (h1 : x < 4294967296) :
    Calls Tryz.prog 15 #[.int .u32 x] w fun e w' => e = .returned (.string (four x)) ∧ Below w.heap.size w w' := by
  have c := conv4
  go_enter Tryz.func15, Tryz.ntmps15
  go_wp2
  go_ret
  exact ⟨rfl, (Below.refl _ _).alloc (Nat.le_refl _) _⟩

/-- The k lowest bytes, the highest first. -/
def digs (x : Int) : Nat → List Int
  | 0 => []
  | k + 1 => (x / 256 ^ k % 256) :: digs x k
theorem digs_length (x : Int) : ∀ k, (digs x k).length = k
  | 0 => rfl
  | k + 1 => by simp [digs, digs_length x k]
theorem digs_four (x : Int) (h0 : 0 ≤ x) (h1 : x < 4294967296) : strOfNums (digs x 4) = four x := by
  have e : x / 256 ^ 3 % 256 = x / 16777216 := by omega
  have e2 : x / 256 ^ 2 % 256 = x / 65536 % 256 := by omega
  have e3 : x / 256 ^ 1 % 256 = x / 256 % 256 := by omega
  have e4 : x / 256 ^ 0 % 256 = x % 256 := by omega
  unfold four
  simp only [digs, e, e2, e3, e4]
theorem strOfNums_cons (x : Int) (l : List Int) : strOfNums [x] ++ strOfNums l = strOfNums (x :: l) := by
  apply ByteArray.ext
  simp [strOfNums, ByteArray.data_append]

/-- A text's byte at a place, 0 behind its end; the number of its first bytes. -/
def byteAt (s : ByteArray) (k : Nat) : Int := ((s.data.toList.getD k 0).toNat : Int)
def numK (s : ByteArray) : Nat → Int
  | 0 => 0
  | k + 1 => numK s k * 256 + byteAt s k
theorem byteAt_bd (s : ByteArray) (k : Nat) : 0 ≤ byteAt s k ∧ byteAt s k ≤ 255 := by unfold byteAt; have := byte_lt (s.data.toList.getD k 0); omega
theorem byteAt_in (s : ByteArray) (k : Nat) (h : k < s.size) : byteAt s k = (s[k].toNat : Int) := by
  unfold byteAt
  have h' : k < s.data.toList.length := by simpa using h
  rw [List.getD_eq_getElem?_getD, List.getElem?_eq_getElem h']
  rfl
theorem byteAt_out (s : ByteArray) (k : Nat) (h : ¬ k < s.size) : byteAt s k = 0 := by
  unfold byteAt
  rw [List.getD_eq_getElem?_getD, List.getElem?_eq_none (by simp; omega)]
  rfl
theorem numK_bd (s : ByteArray) (k : Nat) (h : k < 4) : 0 ≤ numK s k ∧ numK s k < 16777216 := by
  have h0 := byteAt_bd s 0
  have h1 := byteAt_bd s 1
  have h2 := byteAt_bd s 2
  match k, h with
  | 0, _ => simp [numK]
  | 1, _ => simp only [numK]; omega
  | 2, _ => simp only [numK]; omega
  | 3, _ => simp only [numK]; omega

end Go.Proofs.YtlncdmdffpaojaaGreatDoor

namespace Go.Proofs.YtlncdmdffpaojaaGreatDoor
open Go.RowKit

theorem wikiW : adl [87, 105, 107, 105, 112, 101, 100, 105, 97] = 300286872 := by decide
set_option maxHeartbeats 1000000 in
theorem goesW (w : World) : Calls Tryz.prog 4 #[] w fun e w' => e = .returned (.bool true) ∧ Below w.heap.size w w' := by
  have h := wikiW
  go_enter Tryz.func4, Tryz.ntmps4
  go_wp2_with fail
  refine (sum_any _ _ (by decide)).mono ?_
  rintro e w1 ⟨rfl, rfl⟩
  go_wp2_with fail
  refine (four_any 1 _ (by decide) (by decide)).mono ?_
  rintro e w1 ⟨rfl, hb⟩
  have HB := Lib.hid hb
  clear hb
  have hf : four 1 = ⟨#[0, 0, 0, 1]⟩ := by decide +kernel
  rw [hf]
  go_wp2
  go_ret
  exact ⟨by first | rfl | simp, HB.out⟩
end Go.Proofs.YtlncdmdffpaojaaGreatDoor
