/-
  The contracts of package adler's Four and Number, and of the document's own Sum and Four: what each answers, for every argument; what was in memory stays. Conditions: a number is one of 32 bits; the document's Sum: a text of at most 100000 bytes.
-/
import Derived.Test.YtflomllfehoedaaDoorS2Both
import Derived.Test.YtflomllfehoedaaDoorConv
import Derived.Laws.BytesArg
namespace Go.Proofs.YtflomllfehoedaaDoor
open Go.RowKit

/-- A number's four bytes, the highest first. -/
def four (x : Int) : ByteArray := strOfNums [x / 16777216, x / 65536 % 256, x / 256 % 256, x % 256]
theorem four_size (x : Int) : (four x).size = 4 := by unfold four; rw [strOfNums_size]; rfl

set_option maxHeartbeats 1000000 in
theorem four_any (x : Int) (w : World) (h0 : 0 ≤ x) (h1 : x < 4294967296) :
    Calls Tryd.prog 29 #[.int .u32 x] w fun e w' => e = .returned (.string (four x)) ∧ Below w.heap.size w w' := by
  have c := conv4
  go_enter Tryd.func29, Tryd.ntmps29
  go_wp2
  go_ret
  exact ⟨rfl, (Below.refl _ _).alloc (Nat.le_refl _) _⟩

set_option maxHeartbeats 1000000 in
theorem rsum_any (s : ByteArray) (w : World) (hs : s.size ≤ 100000) :
    Calls Tryd.prog 47 #[.string s] w fun e w' => e = .returned (.int .u32 (adl s.data.toList)) ∧ w = w' := by
  go_enter Tryd.func47, Tryd.ntmps47
  go_wp2
  go_loopg [3, 4, 5] s.size (fun g a b i wr => ∃ (k : Nat) (x y : Int), Hid (k + g = s.size ∧ w = wr) ∧ a = .int .i64 x ∧ b = .int .i64 y ∧ i = .int .i64 (k : Int) ∧ Hid (x = sa (s.data.toList.take k) ∧ y = sb (s.data.toList.take k)))
  case atStart => exact ⟨0, 1, 0, ⟨by omega, rfl⟩, rfl, rfl, rfl, ⟨by simp [sa, bS], by simp [sb, bW]⟩⟩
  case round =>
    obtain ⟨k, x, y, HK, rfl, rfl, rfl, HC⟩ := hrel
    have hl : (s.data.toList.take k).length ≤ 100000 := by simp; omega
    have hx : 1 ≤ x ∧ x ≤ 25500001 := by have h := bS_le (s.data.toList.take k); have := HC.out.1; unfold sa at this; omega
    have hy : 0 ≤ y ∧ y ≤ 2550000100000 := by have h := sb_le (s.data.toList.take k) hl; have := HC.out.2; omega
    obtain ⟨hx0, hx1⟩ := hx
    obtain ⟨hy0, hy1⟩ := hy
    clear hl
    by_cases hlt : k < s.size
    · have hc := byte_lt s[k]
      have HX : Hid (x + (s[k].toNat : Int) = sa (s.data.toList.take (k + 1)) ∧ y + (x + (s[k].toNat : Int)) = sb (s.data.toList.take (k + 1))) := by
        have h1 := sa_snoc (s.data.toList.take k) s[k]
        have h2 := sb_snoc (s.data.toList.take k) s[k]
        rw [← take_snoc s k hlt, ← HC.out.1] at h1
        rw [← take_snoc s k hlt, ← HC.out.2, h1] at h2
        exact ⟨h1.symm, h2.symm⟩
      go_wp2
      go_roundg (gk - 1)
      case measure => have := HK.out; omega
      case rel => exact ⟨k + 1, _, _, ⟨by have := HK.out; omega, HK.out.2⟩, rfl, rfl, by go_num, HX.out⟩
    · have HE : Hid (y % 65521 * 65536 + x % 65521 = adl s.data.toList) := by
        have h := HC.out
        rw [List.take_of_length_le (by simp; omega)] at h
        unfold adl
        exact (by rw [h.1, h.2] : y % 65521 * 65536 + x % 65521 = _)
      go_wp2
      go_ret
      exact ⟨ret_int HE.out, HK.out.2⟩

/-- The k lowest bytes, the highest first. -/
def digs (x : Int) : Nat → List Int
  | 0 => []
  | k + 1 => (x / 256 ^ k % 256) :: digs x k
theorem digs_length (x : Int) : ∀ k, (digs x k).length = k
  | 0 => rfl
  | k + 1 => by simp [digs, digs_length x k]
theorem digs_four (x : Int) (h0 : 0 ≤ x) (h1 : x < 4294967296) : strOfNums (digs x 4) = four x := by
  have e : x / 256 ^ 3 % 256 = x / 16777216 := by omega
  have e2 : x / 256 ^ 2 % 256 = x / 65536 % 256 := by omega
  have e3 : x / 256 ^ 1 % 256 = x / 256 % 256 := by omega
  have e4 : x / 256 ^ 0 % 256 = x % 256 := by omega
  unfold four
  simp only [digs, e, e2, e3, e4]
theorem strOfNums_cons (x : Int) (l : List Int) : strOfNums [x] ++ strOfNums l = strOfNums (x :: l) := by
  apply ByteArray.ext
  simp [strOfNums, ByteArray.data_append]

set_option maxHeartbeats 1000000 in
theorem rfour_any (x : Int) (w : World) (h0 : 0 ≤ x) (h1 : x < 4294967296) :
    Calls Tryd.prog 46 #[.int .u32 x] w fun e w' => e = .returned (.string (four x)) ∧ Below w.heap.size w w' := by
  have c := conv1
  have HF := Lib.hid (digs_four x h0 h1)
  go_enter Tryd.func46, Tryd.ntmps46
  go_wp2
  go_loopg [0, 3, 4] 4 (fun g a t i wr => ∃ (k : Nat) (y : Int) (s : ByteArray), Hid (k + g = 4 ∧ Below w.heap.size w wr) ∧ a = .int .u32 y ∧ t = .string s ∧ i = .int .i64 (k : Int) ∧ Hid (y = x / 256 ^ k ∧ s = strOfNums (digs x k)))
  case atStart => exact ⟨0, x, _, ⟨by omega, Below.refl _ _⟩, rfl, rfl, rfl, ⟨by simp, rfl⟩⟩
  case round =>
    obtain ⟨k, y, s, HK, rfl, rfl, rfl, HC⟩ := hrel
    have hk : k ≤ 4 := by have := HK.out.1; omega
    have hy : 0 ≤ y ∧ y < 4294967296 := by
      rw [HC.out.1]
      have hp : (0 : Int) < 256 ^ k := Int.pow_pos (by decide)
      exact ⟨Int.ediv_nonneg h0 (by omega), Int.lt_of_le_of_lt (Int.ediv_le_self _ h0) h1⟩
    obtain ⟨hy0, hy1⟩ := hy
    by_cases hlt : k < 4
    · have hz : (s.size : Int) ≤ 4 := by rw [HC.out.2, strOfNums_size, digs_length]; omega
      have hs1 : (strOfNums [y % 256]).size = 1 := by rw [strOfNums_size]; rfl
      have HN : Hid (y / 256 = x / 256 ^ (k + 1) ∧ strOfNums [y % 256] ++ s = strOfNums (digs x (k + 1))) := by
        refine ⟨?_, ?_⟩
        · rw [HC.out.1, Int.ediv_ediv_of_nonneg (Int.pow_nonneg (by decide)), Int.pow_succ]
        · rw [HC.out.2, strOfNums_cons, digs, HC.out.1]
      go_wp2
      go_roundg (gk - 1)
      case measure => have := HK.out.1; omega
      case rel => exact ⟨k + 1, _, _, ⟨by have := HK.out.1; omega, HK.out.2.alloc HK.out.2.size _⟩, rfl, rfl, by go_num, HN.out⟩
    · go_wp2
      go_ret
      have e : k = 4 := by omega
      exact ⟨by rw [← HF.out, ← e, ← HC.out.2]; rfl, HK.out.2⟩

/-- A text's byte at a place, 0 behind its end; the number of its first bytes. -/
def byteAt (s : ByteArray) (k : Nat) : Int := ((s.data.toList.getD k 0).toNat : Int)
def numK (s : ByteArray) : Nat → Int
  | 0 => 0
  | k + 1 => numK s k * 256 + byteAt s k
theorem byteAt_bd (s : ByteArray) (k : Nat) : 0 ≤ byteAt s k ∧ byteAt s k ≤ 255 := by unfold byteAt; have := byte_lt (s.data.toList.getD k 0); omega
theorem byteAt_in (s : ByteArray) (k : Nat) (h : k < s.size) : byteAt s k = (s[k].toNat : Int) := by
  unfold byteAt
  have h' : k < s.data.toList.length := by simpa using h
  rw [List.getD_eq_getElem?_getD, List.getElem?_eq_getElem h']
  rfl
theorem byteAt_out (s : ByteArray) (k : Nat) (h : ¬ k < s.size) : byteAt s k = 0 := by
  unfold byteAt
  rw [List.getD_eq_getElem?_getD, List.getElem?_eq_none (by simp; omega)]
  rfl
theorem numK_bd (s : ByteArray) (k : Nat) (h : k < 4) : 0 ≤ numK s k ∧ numK s k < 16777216 := by
  have h0 := byteAt_bd s 0
  have h1 := byteAt_bd s 1
  have h2 := byteAt_bd s 2
  match k, h with
  | 0, _ => simp [numK]
  | 1, _ => simp only [numK]; omega
  | 2, _ => simp only [numK]; omega
  | 3, _ => simp only [numK]; omega

end Go.Proofs.YtflomllfehoedaaDoor
