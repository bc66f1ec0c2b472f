/-
  A slice in memory whose elements are of C cells each: what it holds, said by a list; it stays while what is written lies above it. No condition.
-/
import Derived.WalkKit
import Derived.OpenShut
import Derived.Deep.Slices
import Derived.Deep.MidRow
namespace Go.Proofs.YtflomllfehoedaaDoor
open Go.RowKit Go.ChangeShapes Go.WideShapes Go.Deep

/-- A slice that holds a list, each element as C cells. -/
def RowN {α : Type} (C : Nat) (f : α → List Value) (w : World) (a : Option Addr) (cap : Nat) (l : List α) : Prop :=
  l.length ≤ cap ∧ (l = [] ∨ ∃ b off, a = some ⟨b, off, none⟩ ∧ b < w.heap.size ∧ ∀ (j : Nat) x, l[j]? = some x → w.rangeAt b (off + j * C) (f x))
theorem rangeAt_below {w w' : World} {B b o : Nat} {cs : List Value} (h : w.rangeAt b o cs) (hb : Below B w w') (hB : b < B) : w'.rangeAt b o cs := fun j v hv => (hb.cell (p := ⟨b, o + j, none⟩) hB).trans (h j v hv)
theorem RowN.below {α : Type} {C : Nat} {f : α → List Value} {w w' : World} {a : Option Addr} {cap : Nat} {l : List α} (h : RowN C f w a cap l) (hb : Below w.heap.size w w') : RowN C f w' a cap l := by
  obtain ⟨h1, h2⟩ := h
  refine ⟨h1, h2.imp_right ?_⟩
  rintro ⟨b, off, rfl, hlt, hc⟩
  exact ⟨b, off, rfl, Nat.lt_of_lt_of_le hlt hb.size, fun j x hx => rangeAt_below (hc j x hx) hb hlt⟩
theorem RowN.at {α : Type} {C : Nat} {f : α → List Value} {w w' : World} {a : Option Addr} {cap : Nat} {l : List α} (h : RowN C f w a cap l) (hb : Below w.heap.size w w') {k : Nat} (hk : k < l.length) :
    ∃ b off x, a = some ⟨b, off, none⟩ ∧ b < w.heap.size ∧ w'.rangeAt b (off + k * C) (f x) ∧ x ∈ l ∧ l.take (k + 1) = l.take k ++ [x] ∧ l.drop k = x :: l.drop (k + 1) := by
  rcases h.2 with h0 | ⟨b, off, rfl, hlt, hc⟩
  · rw [h0] at hk; simp at hk
  · have hx : l[k]? = some l[k] := List.getElem?_eq_getElem hk
    exact ⟨b, off, l[k], rfl, hlt, rangeAt_below (hc k l[k] hx) hb hlt, List.getElem_mem hk, by rw [List.take_add_one, hx]; rfl, List.drop_eq_getElem_cons hk⟩

theorem list_of {α β : Type} (f : α → β → Prop) (n : Nat) (g : Nat → β) (h : ∀ i, i < n → ∃ x, f x (g i)) : ∃ l : List α, l.length = n ∧ ∀ j x, l[j]? = some x → f x (g j) := by
  induction n with
  | zero => exact ⟨[], rfl, fun j x hx => by simp at hx⟩
  | succ n ih =>
    obtain ⟨l, hl, hf⟩ := ih fun i hi => h i (by omega)
    obtain ⟨y, hy⟩ := h n (by omega)
    refine ⟨l ++ [y], by simp [hl], fun j x hx => ?_⟩
    by_cases hj : j < l.length
    · rw [List.getElem?_append_left hj] at hx
      exact hf j x hx
    · rw [List.getElem?_append_right (by omega)] at hx
      have : j - l.length = 0 := by
        rcases Nat.eq_zero_or_pos (j - l.length) with h0 | h0
        · exact h0
        · rw [List.getElem?_eq_none (by simp; omega)] at hx
          cases hx
      rw [this] at hx
      have e : j = n := by omega
      subst e
      obtain rfl : y = x := by simpa using hx
      exact hy

theorem rowN_open {H α : Type} {enc : TypeId × Value → H} {P : Program} {W : World} {b : Nat} {t e : TypeId} {C : Nat} (f : α → List Value) (ok : α → Prop) (ht : P.underlying t = some (.slice e)) (hC : P.cellsOf e = C) (hC0 : 0 < C)
    (hof : ∀ n cs d, DataW.trod enc P W b (fun _ => true) true n e cs = some d → ∃ x, ok x ∧ cs = f x) {a : Option Addr} {len cap : Nat} {d : DataW H} {ps : List MemPlace}
    (h : ∃ fuel, DataW.trod enc P W b (fun _ => true) true fuel t (Value.slice a len cap).cells.toList = some (d, ps)) : ∃ l : List α, len = l.length ∧ RowN C f W a cap l ∧ (∀ x ∈ l, ok x) ∧ l.length ≤ maxLen := by
  obtain ⟨fuel, hf⟩ := h
  rcases open_slice ht hf with ⟨hcs, _⟩ | ⟨a', len', cap', m, n, D, Pl, hcs, _, hl, hm, hmm, _, hi⟩
  · simp [Value.cells] at hcs
    obtain ⟨rfl, rfl, rfl⟩ := hcs
    exact ⟨[], rfl, ⟨by simp, .inl rfl⟩, by simp, by simp [maxLen]⟩
  · simp [Value.cells] at hcs
    obtain ⟨rfl, rfl, rfl⟩ := hcs
    simp at hmm
    subst hmm
    rw [hC] at hi
    obtain ⟨L, hL, hLf⟩ := list_of (fun x i => ok x ∧ W.cells? b (a'.add (i * C)) C = some (f x)) len id fun i hil => by
      obtain ⟨cs', h1, h2⟩ := hi i (by omega)
      obtain ⟨x, h3, rfl⟩ := hof n cs' _ h2
      exact ⟨x, h3, h1⟩
    refine ⟨L, hL.symm, ⟨by omega, ?_⟩, fun x hx => ?_, by omega⟩
    · by_cases h0 : L = []
      · exact .inl h0
      · right
        obtain ⟨x0, hx0⟩ : ∃ x0, L[0]? = some x0 := by
          cases L with
          | nil => exact absurd rfl h0
          | cons x r => exact ⟨x, rfl⟩
        obtain ⟨bb, off, spot⟩ := a'
        have g0 := (World.cells?_some (hLf 0 x0 hx0).2)
        have c0 := g0.2.2 0 hC0
        have hsome : ∃ v, (f x0)[0]? = some v := ⟨_, List.getElem?_eq_getElem (by rw [g0.2.1]; exact hC0)⟩
        obtain ⟨v0, hv0⟩ := hsome
        rw [hv0] at c0
        have hspot : spot = none := by simpa [Addr.add] using World.cell?_spot c0
        subst hspot
        have hlt : bb < W.heap.size := by
          rcases Nat.lt_or_ge bb W.heap.size with h' | h'
          · exact h'
          · simp [World.cell?, Addr.add, Array.getElem?_eq_none h'] at c0
        refine ⟨bb, off, rfl, hlt, fun j x hx i v hv => ?_⟩
        have gj := World.cells?_some (hLf j x hx).2
        have hil : i < C := by rw [← gj.2.1]; exact (List.getElem?_eq_some_iff.1 hv).1
        have := gj.2.2 i hil
        rw [hv, Go.WideShapes.add_plain, Go.WideShapes.add_plain] at this
        exact this
    · obtain ⟨j, hj⟩ := List.mem_iff_getElem?.1 hx
      exact (hLf j x hj).1
end Go.Proofs.YtflomllfehoedaaDoor
