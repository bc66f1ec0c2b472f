/-
  '[]byte(s)' and 'string(b)' over this program: a new array that holds the text's bytes; a text of what an array holds. No condition.
-/
import Derived.Test.YtflomllfehoedaaDoorProg
import Derived.WalkKit
import Derived.Laws.IdiomStrings
import Derived.Laws.BitsLemmas
namespace Go.Proofs.YtflomllfehoedaaDoor
open Go.RowKit

/-- An array in memory, of its own block, that may be written: its bytes. -/
def Held (w : World) (k : Nat) (l : List UInt8) : Prop :=
  k < w.heap.size ∧ ∀ j (h : j < l.length), w.cell? ⟨k, j, none⟩ = some (.int .u8 (l[j].toNat : Int)) ∧ w.frozen? ⟨k, j, none⟩ = false
theorem conv_in (s : ByteArray) (w : World) : ∃ cap w1, (convert 9 34 (.string s)).run Tryd.prog w = .ok (.slice (some ⟨w.heap.size, 0, none⟩) s.size cap) w1 ∧ Below w.heap.size w w1 ∧ Held w1 w.heap.size s.data.toList := by
  refine ⟨_, _, run_bytes_of_string w 9 34 5 s Tryd.underlying9 Tryd.underlying34 Tryd.underlying5, ?_, ?_, ?_⟩
  · exact (Below.refl _ _).drew.alloc (Nat.le_refl _) _
  · simp
  · intro j h
    have hj : j < s.data.size := by simpa using h
    have hz : (bytesRow s (grownCap w s.size 0 5)).size ≥ s.data.size := by simp [bytesRow]
    refine ⟨?_, ?_⟩
    · have := World.cell?_alloc_mark w.drew (bytesRow s (grownCap w s.size 0 5)) 5 ((bytesRow s (grownCap w s.size 0 5)).size, (bytesRow s (grownCap w s.size 0 5)).size + 1) j
      exact this.trans (bytesRow_at s _ j hj)
    · have := World.frozen?_alloc_mark w.drew (bytesRow s (grownCap w s.size 0 5)) 5 (bytesRow s (grownCap w s.size 0 5)).size ((bytesRow s (grownCap w s.size 0 5)).size + 1) j
      refine this.trans ?_
      have : ¬ (bytesRow s (grownCap w s.size 0 5)).size ≤ j := by omega
      simp [this]
theorem conv_back (w : World) (k cap : Nat) (l : List UInt8) (n : Nat) (hn : l.length = n) (h : Held w k l) : (convert 34 9 (.slice (some ⟨k, 0, none⟩) n cap)).run Tryd.prog w = .ok (.string ⟨l.toArray⟩) w := by
  subst hn
  refine run_convert_bytes_back w 34 9 5 ⟨k, 0, none⟩ cap l Tryd.underlying34 Tryd.underlying5 Tryd.underlying9 (fun j hj => ?_)
  have := (h.2 j hj).1
  rw [Addr.add_lit, Nat.zero_add]
  exact this
theorem Held.set {w : World} {k : Nat} {l : List UInt8} (h : Held w k l) (i : Nat) (hi : i < l.length) (c : UInt8) : Held (w.setCell ⟨k, i, none⟩ (.int .u8 (c.toNat : Int))) k (l.set i c) := by
  refine ⟨by simpa using h.1, fun j hj => ?_⟩
  have hj' : j < l.length := by simpa using hj
  refine ⟨?_, ?_⟩
  · by_cases e : i = j
    · subst e
      rw [World.cell?_setCell_same _ _ _ (h.2 i hi).1]
      simp
    · rw [World.cell?_setCell_other _ _ _ _ (by simp)]
      rw [(h.2 j hj').1]
      simp [List.getElem_set_ne e]
  · simpa using (h.2 j hj').2

theorem xor_u8 (a c : UInt8) : bits .xor .u8 (a.toNat : Int) (c.toNat : Int) = ((a ^^^ c).toNat : Int) := by
  have h1 : a.toNat < 2 ^ 8 := a.toNat_lt
  have h2 : c.toNat < 2 ^ 8 := c.toNat_lt
  have h3 : a.toNat ^^^ c.toNat < 2 ^ 8 := Nat.xor_lt_two_pow h1 h2
  have e1 : (BitVec.ofInt 8 (a.toNat : Int)).toNat = a.toNat := by rw [BitVec.ofInt_natCast, BitVec.toNat_ofNat]; exact Nat.mod_eq_of_lt h1
  have e2 : (BitVec.ofInt 8 (c.toNat : Int)).toNat = c.toNat := by rw [BitVec.ofInt_natCast, BitVec.toNat_ofNat]; exact Nat.mod_eq_of_lt h2
  show IntKind.u8.wrap ((BitVec.ofInt 8 (a.toNat : Int) ^^^ BitVec.ofInt 8 (c.toNat : Int)).toNat : Int) = _
  rw [BitVec.toNat_xor, e1, e2, IntKind.wrap_u8, UInt8.toNat_xor]
  omega
end Go.Proofs.YtflomllfehoedaaDoor
