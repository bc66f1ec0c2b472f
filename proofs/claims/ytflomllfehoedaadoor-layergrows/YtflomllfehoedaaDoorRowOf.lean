/-
  A slice in memory whose elements are of one cell each: what it holds, said by a list; it stays while what is written lies above it. No condition.
-/
import Derived.WalkKit
import Derived.WideShapes
namespace Go.Proofs.YtflomllfehoedaaDoor
open Go.RowKit

/-- A slice that holds a list, each element as one cell. -/
def RowOf {α : Type} (f : α → Value) (w : World) (a : Option Addr) (cap : Nat) (l : List α) : Prop :=
  l.length ≤ cap ∧ (l = [] ∨ ∃ b off, a = some ⟨b, off, none⟩ ∧ b < w.heap.size ∧ ∀ (j : Nat) x, l[j]? = some x → w.cell? ⟨b, off + j, none⟩ = some (f x))
theorem RowOf.below {α : Type} {f : α → Value} {w w' : World} {a : Option Addr} {cap : Nat} {l : List α} (h : RowOf f w a cap l) (hb : Below w.heap.size w w') : RowOf f w' a cap l := by
  obtain ⟨h1, h2⟩ := h
  refine ⟨h1, h2.imp_right ?_⟩
  rintro ⟨b, off, rfl, hlt, hc⟩
  exact ⟨b, off, rfl, Nat.lt_of_lt_of_le hlt hb.size, fun j x hx => (hb.cell (p := ⟨b, off + j, none⟩) hlt).trans (hc j x hx)⟩
theorem RowOf.at {α : Type} {f : α → Value} {w w' : World} {a : Option Addr} {cap : Nat} {l : List α} (h : RowOf f w a cap l) (hb : Below w.heap.size w w') {k : Nat} (hk : k < l.length) :
    ∃ b off x, a = some ⟨b, off, none⟩ ∧ w'.cell? ⟨b, off + k, none⟩ = some (f x) ∧ l.take (k + 1) = l.take k ++ [x] ∧ l.drop k = x :: l.drop (k + 1) := by
  rcases h.2 with h0 | ⟨b, off, rfl, hlt, hc⟩
  · rw [h0] at hk; simp at hk
  · have hx : l[k]? = some l[k] := List.getElem?_eq_getElem hk
    exact ⟨b, off, l[k], rfl, (hb.cell (p := ⟨b, off + k, none⟩) hlt).trans (hc k l[k] hx), by rw [List.take_add_one, hx]; rfl, List.drop_eq_getElem_cons hk⟩
theorem rowOf_mk {α : Type} {f : α → Value} {w : World} {a : Addr} {len cap : Nat} {l : List α} (d : α) (hl : len ≤ l.length) (hc : len ≤ cap) (h : ∀ i, i < l.length → w.cell? (a.add i) = some (f (l.getD i d))) : RowOf f w (some a) cap (l.take len) := by
  refine ⟨by simp; omega, ?_⟩
  by_cases h0 : len = 0
  · exact .inl (by simp [h0])
  · obtain ⟨bb, off, spot⟩ := a
    have hspot : spot = none := by simpa [Addr.add] using World.cell?_spot (h 0 (by omega))
    subst hspot
    have hc0 := h 0 (by omega)
    rw [Go.WideShapes.add_plain] at hc0
    have hlt : bb < w.heap.size := by
      rcases Nat.lt_or_ge bb w.heap.size with h' | h'
      · exact h'
      · simp [World.cell?, Array.getElem?_eq_none h'] at hc0
    refine .inr ⟨bb, off, rfl, hlt, fun j x hx => ?_⟩
    rw [List.getElem?_take] at hx
    split at hx
    · rename_i hj
      have hcj := h j (by omega)
      rw [Go.WideShapes.add_plain, List.getD_eq_getElem?_getD, hx] at hcj
      exact hcj
    · cases hx
end Go.Proofs.YtflomllfehoedaaDoor
