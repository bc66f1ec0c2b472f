/-
  The contracts of package adler's join, halves, Sum and Both: what each answers, for every argument. They leave memory as it was. No condition but that a text's length is one that Go has.
-/
import Derived.Test.YtflomllfehoedaaDoorProg
import Derived.Test.YtflomllfehoedaaDoorS2Math
import Derived.WalkKit
import Derived.Lib.Hide
import Derived.Deep.LoopGhost
import Derived.Laws.BitsLemmas
namespace Go.Proofs.YtflomllfehoedaaDoor
open Go.RowKit

theorem wraps_u32 (n : Int) (h₀ : 0 ≤ n) (h₁ : n < 2 ^ 32) : IntKind.u32.wrap n = n := by rw [IntKind.wrap_u32]; omega
theorem u32_or16 (x y : Int) (hx₀ : 0 ≤ x) (hx : x % 65536 = 0) (hx₁ : x < 4294967296) (h₀ : 0 ≤ y) (h₁ : y < 65536) : bits .or .u32 x y = x + y :=
  bits_join .u32 32 (by decide) wraps_u32 16 x y hx₀ hx hx₁ h₀ h₁ (by omega)
theorem u32_or8 (x y : Int) (hx₀ : 0 ≤ x) (hx : x % 256 = 0) (hx₁ : x < 4294967296) (h₀ : 0 ≤ y) (h₁ : y < 256) : bits .or .u32 x y = x + y :=
  bits_join .u32 32 (by decide) wraps_u32 8 x y hx₀ hx hx₁ h₀ h₁ (by omega)
theorem u32_and16 (x : Int) (h₀ : 0 ≤ x) (h₁ : x < 4294967296) : bits .and .u32 x 65535 = x % 65536 := bits_mask .u32 32 (by decide) wraps_u32 16 (by decide) x h₀ h₁
theorem ret_int {k : IntKind} {a b : Int} (h : a = b) : Ending.returned (.int k a) = .returned (.int k b) := by rw [h]
theorem val_int {k : IntKind} {a b : Int} (h : a = b) : Value.int k a = .int k b := by rw [h]
theorem take_snoc (s : ByteArray) (k : Nat) (h : k < s.size) : s.data.toList.take (k + 1) = s.data.toList.take k ++ [s[k]] := by
  rw [List.take_succ_eq_append_getElem (by simpa using h)]; rfl

set_option maxHeartbeats 1000000 in
theorem join_any (a b : Int) (w : World) (ha0 : 0 ≤ a) (ha1 : a < 65536) (hb0 : 0 ≤ b) (hb1 : b < 65536) :
    Calls Tryd.prog 53 #[.int .u32 a, .int .u32 b] w fun e w' => e = .returned (.int .u32 (b * 65536 + a)) ∧ w = w' := by
  go_enter Tryd.func53, Tryd.ntmps53
  go_wp2
  go_ret
  exact ⟨ret_int (u32_or16 _ _ (by omega) (by omega) (by omega) ha0 ha1), rfl⟩
set_option maxHeartbeats 1000000 in
theorem sum_any (s : ByteArray) (w : World) (hs : s.size ≤ maxLen) :
    Calls Tryd.prog 30 #[.string s] w fun e w' => e = .returned (.int .u32 (adl s.data.toList)) ∧ w = w' := by
  unfold maxLen at hs
  go_enter Tryd.func30, Tryd.ntmps30
  go_wp2
  go_loopg [3, 4, 8] s.size (fun g a b i wr => ∃ (k : Nat) (x y : Int), Hid (k + g = s.size ∧ w = wr) ∧ a = .int .u32 x ∧ b = .int .u32 y ∧ i = .int .i64 (k : Int) ∧ Hid (x = sa (s.data.toList.take k) % 65521 ∧ y = sb (s.data.toList.take k) % 65521))
  case atStart => exact ⟨0, 1, 0, ⟨by omega, rfl⟩, rfl, rfl, rfl, ⟨by simp [sa, bS], by simp [sb, bW]⟩⟩
  case round =>
    obtain ⟨k, x, y, HK, rfl, rfl, rfl, HC⟩ := hrel
    have hx0 : 0 ≤ x := by have := HC.out.1; omega
    have hx1 : x < 65521 := by have := HC.out.1; omega
    have hy0 : 0 ≤ y := by have := HC.out.2; omega
    have hy1 : y < 65521 := by have := HC.out.2; omega
    by_cases hlt : k < s.size
    · have hc := byte_lt s[k]
      have HX : Hid ((x + (s[k].toNat : Int)) % 65521 = sa (s.data.toList.take (k + 1)) % 65521 ∧ (y + (x + (s[k].toNat : Int)) % 65521) % 65521 = sb (s.data.toList.take (k + 1)) % 65521) := by
        have h1 := sa_step (s.data.toList.take k) s[k]
        have h2 := sb_step (s.data.toList.take k) s[k]
        rw [← take_snoc s k hlt, ← HC.out.1] at h1
        rw [← take_snoc s k hlt, ← HC.out.2] at h2
        exact ⟨h1, by rw [h1]; exact h2⟩
      go_wp2
      go_roundg (gk - 1)
      case measure => have := HK.out; omega
      case rel => exact ⟨k + 1, _, _, ⟨by have := HK.out; omega, HK.out.2⟩, rfl, rfl, by go_num, HX.out⟩
    · have HE : Hid (y * 65536 + x = adl s.data.toList) := by
        have h := HC.out
        rw [List.take_of_length_le (by simp; omega)] at h
        unfold adl
        exact (by rw [h.1, h.2] : y * 65536 + x = _)
      go_wp2_with fail
      refine (join_any _ _ _ hx0 (by omega) hy0 (by omega)).mono ?_
      rintro e w1 ⟨rfl, rfl⟩
      go_wp2
      go_ret
      exact ⟨ret_int HE.out, HK.out.2⟩
end Go.Proofs.YtflomllfehoedaaDoor
