/-
  The contract of wrapped: a number, wrapped by the pairs of a list of texts, is an error chain of those pairs, the last one outermost. Condition: the list lies in memory.
-/
import Derived.Test.YtjfjfgahfciflaaDoorFail
import Derived.StillTailTactics
import Derived.IntWalk
namespace Go.Proofs.YtjfjfgahfciflaaDoor
open Go.RowKit Go.Extern.Stop Go.Stop Go.Extern

/-- A list of texts in memory. -/
def Strs (w : World) (a : Option Addr) (len : Nat) (S : Nat → ByteArray) : Prop := ∀ i, i < len → ∃ b off, a = some ⟨b, off, none⟩ ∧ b < w.heap.size ∧ w.cell? ⟨b, off + i, none⟩ = some (.string (S i))
theorem Strs.below {w w' : World} {a : Option Addr} {len : Nat} {S : Nat → ByteArray} (h : Strs w a len S) (hb : Below w.heap.size w w') : Strs w' a len S := fun i hi => by
  obtain ⟨b, off, h1, h2, h3⟩ := h i hi
  exact ⟨b, off, h1, Nat.lt_of_lt_of_le h2 hb.size, (hb.cell (p := ⟨b, off + i, none⟩) h2).trans h3⟩

/-- The first k pairs, the last one first. -/
def wraps (S : Nat → ByteArray) : Nat → List (ByteArray × ByteArray)
  | 0 => []
  | k + 1 => (S (2 * k), S (2 * k + 1)) :: wraps S k
theorem wraps_length (S : Nat → ByteArray) : ∀ k, (wraps S k).length = k
  | 0 => rfl
  | k + 1 => by simp [wraps, wraps_length S k]

set_option maxRecDepth 100000 in
set_option maxHeartbeats 1000000 in
theorem wrapped_any (n : Int) (a : Option Addr) (len cap : Nat) (S : Nat → ByteArray) (w : World) (hlen : len ≤ 1000000) (hs : Strs w a len S) :
    Calls Tryd.prog 8 #[.int .i64 n, .slice a len cap] w fun e w' => ∃ u y, e = .returned (.iface u y) ∧ Chain w' n (wraps S (len / 2)) (.iface u y) ∧ Below w.heap.size w w' := by
  have HS := Lib.hid hs
  clear hs
  go_enter Tryd.func8, Tryd.ntmps8
  go_wp2
  go_loopg [5, 6] (len / 2) (fun g e i wr => ∃ (k j : Nat) (u : TypeId) (y : Value), Hid (k + g = len / 2 ∧ j = 2 * k) ∧ e = .iface u y ∧ i = .int .i64 (j : Int) ∧ Hid (Chain wr n (wraps S k) (.iface u y) ∧ Below w.heap.size w wr))
  case atStart => exact ⟨0, 0, 29, .int .i64 n, ⟨by omega, by omega⟩, rfl, rfl, ⟨rfl, Below.refl _ _⟩⟩
  case round =>
    obtain ⟨k, j, u, y, HK, rfl, rfl, HC⟩ := hrel
    have hjb : (j : Int) ≤ 1000000 := by have := HK.out; omega
    by_cases hlt : j + 1 < len
    · obtain ⟨b, off, rfl, hbl, hc1⟩ := (HS.out.below HC.out.2) j (by omega)
      obtain ⟨b', off', e2, _, hc2⟩ := (HS.out.below HC.out.2) (j + 1) (by omega)
      obtain ⟨rfl, rfl⟩ : b = b' ∧ off = off' := by simpa using e2
      clear e2
      have hj : (j : Int) + 1 < (len : Int) := by omega
      have hj0 : (0 : Int) ≤ (j : Int) := by omega
      have hj1 : (j : Int) < (len : Int) := by omega
      have hj2 : (0 : Int) ≤ (j : Int) + 1 := by omega
      have hw2 : IntKind.i64.wrap ((j : Int) + 1) = (j : Int) + 1 := IntWalk.i64_in _ (by omega)
      have e1 : ((j : Int) + 1).toNat = j + 1 := by omega
      go_wp2_with fail
      go_still_tail 10, (by kernel_rfl)
      change wpList _ _ _ _ _ wr.drew
      have HC2 : Hid (Chain wr.drew n (wraps S k) (.iface u y) ∧ Below w.heap.size w wr.drew) := ⟨HC.out.1.below (Below.refl _ _).drew, HC.out.2.drew⟩
      clear hc1 hc2 hbl HC e1 hw2 hj2
      generalize wr.drew = w2 at *
      go_wp2_with fail
      refine (at_iface _ _ _ _ _).mono ?_
      rintro e w3 ⟨rfl, rfl⟩
      go_wp2
      go_roundg (gk - 1)
      case measure => have := HK.out; omega
      case rel => exact ⟨k + 1, j + 2, _, _, ⟨by have := HK.out; omega, by have := HK.out; omega⟩, rfl, by go_num, ⟨by rw [wraps, ← HK.out.2]; exact chain_at HC2.out.1 (S j) (S (j + 1)), HC2.out.2.alloc HC2.out.2.size _⟩⟩
    · have hj : ¬ (j : Int) + 1 < (len : Int) := by omega
      go_wp2
      go_ret
      have hk : k = len / 2 := by have := HK.out; omega
      exact ⟨u, y, rfl, hk ▸ HC.out.1, HC.out.2⟩
end Go.Proofs.YtjfjfgahfciflaaDoor
