/-
  A slice of slices of entries ([][]api.Entry) in memory, told by a list of lists. No condition.
-/
import Derived.Test.YtgpipljhpkhffaaDoorPc
namespace Go.Proofs.YtgpipljhpkhffaaDoor
open Go.RowKit

/-- A stack of layers in memory. -/
def Stk (w : World) (a : Option Addr) (cap : Nat) (S : List (List Ent)) : Prop :=
  S.length ≤ cap ∧ (S = [] ∨ ∃ b off, a = some ⟨b, off, none⟩ ∧ b < w.heap.size ∧ ∀ (j : Nat) l, S[j]? = some l → ∃ a' cap', w.cell? ⟨b, off + j, none⟩ = some (.slice a' l.length cap') ∧ Ents w a' cap' l)
theorem stk_empty (w : World) (a : Option Addr) (cap : Nat) : Stk w a cap [] := ⟨by simp, .inl rfl⟩
theorem Stk.below {w w' : World} {a : Option Addr} {cap : Nat} {S : List (List Ent)} (h : Stk w a cap S) (hb : Below w.heap.size w w') : Stk w' a cap S := by
  obtain ⟨h1, h2⟩ := h
  refine ⟨h1, h2.imp_right ?_⟩
  rintro ⟨b, off, rfl, hlt, hc⟩
  refine ⟨b, off, rfl, Nat.lt_of_lt_of_le hlt hb.size, fun j l hl => ?_⟩
  obtain ⟨a', cap', h3, h4⟩ := hc j l hl
  exact ⟨a', cap', (hb.cell (p := ⟨b, off + j, none⟩) hlt).trans h3, RowN.below h4 hb⟩
theorem Stk.at {w w' : World} {a : Option Addr} {cap : Nat} {S : List (List Ent)} (h : Stk w a cap S) (hb : Below w.heap.size w w') {k : Nat} (hk : k < S.length) :
    ∃ b off a' cap', a = some ⟨b, off, none⟩ ∧ w'.cell? ⟨b, off + k, none⟩ = some (.slice a' (S[k]).length cap') ∧ Ents w' a' cap' S[k] := by
  have h := h.below hb
  rcases h.2 with h0 | ⟨b, off, rfl, hlt, hc⟩
  · rw [h0] at hk; simp at hk
  · obtain ⟨a', cap', h3, h4⟩ := hc k S[k] (List.getElem?_eq_getElem hk)
    exact ⟨b, off, a', cap', rfl, h3, h4⟩
theorem Stk.take {w : World} {a : Option Addr} {cap : Nat} {S : List (List Ent)} (h : Stk w a cap S) (n : Nat) : Stk w a cap (S.take n) := by
  obtain ⟨h1, h2⟩ := h
  refine ⟨by rw [List.length_take]; omega, ?_⟩
  rcases h2 with rfl | ⟨b, off, rfl, hlt, hc⟩
  · exact .inl (by simp)
  · refine .inr ⟨b, off, rfl, hlt, fun j l hl => hc j l ?_⟩
    rw [List.getElem?_take] at hl
    split at hl
    · exact hl
    · cases hl
end Go.Proofs.YtgpipljhpkhffaaDoor
