/-
  A slice that is a call's own, of elements of C cells each: an element set, the end struck off (clear), and what a list of elements makes of it. No condition.
-/
import Derived.Test.YtjliagcalbdnhaaGreatDoorPc
import Derived.Laws.IdiomCopy
namespace Go.Proofs.YtjliagcalbdnhaaGreatDoor
open Go.RowKit

theorem heap_setCells_at (t : TypeId) : ∀ (vs : List Value) (w : World) (g o : Nat) (cur : Array Value), w.heap[g]? = some (.cells cur t (0, 0)) →
    ∃ cur', (w.setCells g o vs).heap[g]? = some (.cells cur' t (0, 0)) ∧ cur'.size = cur.size ∧ ∀ j, j < cur.size → cur'[j]? = if o ≤ j ∧ j < o + vs.length then vs[j - o]? else cur[j]?
  | [], w, g, o, cur, h => ⟨cur, h, rfl, fun j _ => by rw [if_neg (fun h => by have := h.2; rw [List.length_nil] at this; omega)]⟩
  | v :: r, w, g, o, cur, h => by
    have h1 : (w.setCell ⟨g, o, none⟩ v).heap[g]? = some (.cells (cur.setIfInBounds o v) t (0, 0)) := by simp [World.setCell, Array.getElem?_modify, h]
    obtain ⟨cur', h2, h3, h4⟩ := heap_setCells_at t r (w.setCell ⟨g, o, none⟩ v) g (o + 1) _ h1
    refine ⟨cur', h2, by simpa using h3, fun j hj => ?_⟩
    rw [h4 j (by simpa using hj)]
    by_cases e : j = o
    · subst e
      rw [if_neg (by omega), if_pos (by simp), Array.getElem?_setIfInBounds]
      simp [hj]
    · by_cases h5 : o + 1 ≤ j ∧ j < o + 1 + r.length
      · rw [if_pos h5, if_pos (by simp; omega), show j - o = (j - (o + 1)) + 1 by omega]
        simp
      · rw [if_neg h5, if_neg (by simp; omega), Array.getElem?_setIfInBounds, if_neg (by omega)]

section
variable {w : World} {B : Nat} {e : TypeId} {C g n cap : Nat} {xs : List Value}
theorem owns_put (h : w.ownsRow B e C (.slice (some ⟨g, 0, none⟩) n cap) n xs) (o : Nat) (vs : List Value) (ho : o + vs.length ≤ n * C) :
    (w.setCells g o vs).ownsRow B e C (.slice (some ⟨g, 0, none⟩) n cap) n (xs.take o ++ vs ++ xs.drop (o + vs.length)) := by
  obtain ⟨hl, ⟨h2, _⟩ | ⟨g', cap', cur, h2, hg, hb, hcap, hm, hsz, ht⟩⟩ := h
  · cases h2
  · cases h2
    obtain ⟨cur', c1, c2, c3⟩ := heap_setCells_at e vs w g o cur hb
    have hnc : n * C ≤ cap * C := Nat.mul_le_mul_right _ hcap
    refine ⟨by simp; omega, .inr ⟨g, cap, cur', rfl, hg, c1, hcap, hm, c2.trans hsz, ?_⟩⟩
    apply List.ext_getElem?
    intro j
    by_cases hj : j < n * C
    · rw [List.getElem?_take, if_pos hj, Array.getElem?_toList, c3 j (by omega)]
      have hx : xs[j]? = cur[j]? := by rw [← ht, List.getElem?_take, if_pos hj, Array.getElem?_toList]
      by_cases h1 : o ≤ j ∧ j < o + vs.length
      · rw [if_pos h1, List.getElem?_append_left (by simp; omega), List.getElem?_append_right (by simp; omega)]
        congr 1
        simp
        omega
      · rw [if_neg h1]
        by_cases h3 : j < o
        · rw [List.getElem?_append_left (by simp; omega), List.getElem?_append_left (by simp; omega), List.getElem?_take, if_pos h3, hx]
        · rw [List.getElem?_append_right (by simp; omega), List.getElem?_drop, ← hx]
          congr 1
          simp
          omega
    · rw [List.getElem?_eq_none (by simp; omega), List.getElem?_eq_none (by simp; omega)]
theorem owns_cut (h : w.ownsRow B e C (.slice (some ⟨g, 0, none⟩) n cap) n xs) {m : Nat} (hm : m ≤ n) (vs : List Value) : (w.setCells g (m * C) vs).ownsRow B e C (.slice (some ⟨g, 0, none⟩) m cap) m (xs.take (m * C)) := by
  obtain ⟨hl, ⟨h2, _⟩ | ⟨g', cap', cur, h2, hg, hb, hcap, hm2, hsz, ht⟩⟩ := h
  · cases h2
  · cases h2
    obtain ⟨cur', c1, c2, c3⟩ := heap_setCells_at e vs w g (m * C) cur hb
    have hnc : n * C ≤ cap * C := Nat.mul_le_mul_right _ hcap
    have hmn : m * C ≤ n * C := Nat.mul_le_mul_right _ hm
    refine ⟨by simp; omega, .inr ⟨g, cap, cur', rfl, hg, c1, by omega, hm2, c2.trans hsz, ?_⟩⟩
    apply List.ext_getElem?
    intro j
    rw [List.getElem?_take, List.getElem?_take]
    split
    · rename_i hj
      have hx : xs[j]? = cur[j]? := by rw [← ht, List.getElem?_take, if_pos (by omega), Array.getElem?_toList]
      rw [Array.getElem?_toList, c3 j (by omega), if_neg (by omega), hx]
    · rfl
/-- The cells of an owned row are there. -/
theorem owns_there (h : w.ownsRow B e C (.slice (some ⟨g, 0, none⟩) n cap) n xs) {o m : Nat} (ho : o + m ≤ cap * C) : w.there g o m := by
  obtain ⟨hl, ⟨h2, _⟩ | ⟨g', cap', cur, h2, hg, hb, hcap, hm2, hsz, ht⟩⟩ := h
  · cases h2
  · cases h2
    intro j hj
    have h8 : o + j < cur.size := by omega
    simp [World.cell?, World.frozen?, hb, Array.getElem?_eq_getElem h8]
end
section
variable {α : Type} {C : Nat} {f : α → List Value}
theorem flat_take : ∀ (l : List α), (∀ x ∈ l, (f x).length = C) → ∀ m, (l.take m).flatMap f = (l.flatMap f).take (m * C)
  | [], _, m => by simp
  | x :: r, hC, 0 => by simp
  | x :: r, hC, m + 1 => by
    have h1 := hC x List.mem_cons_self
    have e1 : (m + 1) * C = (f x).length + m * C := by rw [h1, Nat.succ_mul]; omega
    rw [List.take_succ_cons, List.flatMap_cons, List.flatMap_cons, flat_take r (fun y hy => hC y (List.mem_cons_of_mem _ hy)) m, e1, List.take_length_add_append]
theorem flat_set : ∀ (l : List α), (∀ x ∈ l, (f x).length = C) → ∀ i x, i < l.length → (f x).length = C → (l.set i x).flatMap f = (l.flatMap f).take (i * C) ++ f x ++ (l.flatMap f).drop (i * C + C)
  | [], _, i, x, hi, _ => by simp at hi
  | y :: r, hC, 0, x, _, hx => by
    have h1 := hC y List.mem_cons_self
    simp [← h1]
  | y :: r, hC, i + 1, x, hi, hx => by
    have h1 := hC y List.mem_cons_self
    have ih := flat_set r (fun y hy => hC y (List.mem_cons_of_mem _ hy)) i x (by simpa using hi) hx
    have e1 : (i + 1) * C = (f y).length + i * C := by rw [h1, Nat.succ_mul]; omega
    have e2 : (i + 1) * C + C = (f y).length + (i * C + C) := by rw [e1]; omega
    rw [List.set_cons_succ, List.flatMap_cons, List.flatMap_cons, ih, e2, e1, List.take_length_add_append, List.drop_length_add_append]
    simp
end
/-- clear(s[..]) of a row's end. -/
theorem run_clear_any {P : Program} (w : World) (t e : TypeId) (z : Value) (C : Nat) (ht : P.underlying t = some (.slice e)) (hv : ∀ w, (zeroValue e).run P w = .ok z w) (hzs : z.cells.size = C) (hC : 0 < C) (h1 : ∀ u ∈ z.cells.toList, u.oneCell' = true) (b o n c : Nat) (hth : w.there b o (n * C)) :
    ∃ vs : List Value, vs.length = n * C ∧ ∀ ty, (Builtin.clear_ #[t] ty #[.slice (some ⟨b, o, none⟩) n c]).run P w = .ok (.tuple #[]) (w.setCells b o vs) := by
  rcases n with _ | n
  · exact ⟨[], by simp, fun ty => by simp [Builtin.clear_, run_underlying ht, World.setCells]⟩
  · refine ⟨(Builtin.zeroCells z.cells (n + 1)).toList, by simp [Builtin.zeroCells, hzs], fun ty => ?_⟩
    have hlen : (Builtin.zeroCells z.cells (n + 1)).toList.length = (n + 1) * C := by simp [Builtin.zeroCells, hzs]
    have hst := run_storeCells_cells (P := P) b o (Builtin.zeroCells z.cells (n + 1)).toList 0 w (fun j hj => by rw [hlen] at hj; exact (hth j hj).1) (fun j hj => by rw [hlen] at hj; exact (hth j hj).2) (fun v hv' => by
      simp only [Builtin.zeroCells, Array.toList_map, List.mem_map] at hv'
      obtain ⟨j, _, rfl⟩ := hv'
      have hj : j % z.cells.size < z.cells.size := Nat.mod_lt _ (by omega)
      rw [getElem!_pos z.cells _ hj]
      exact h1 _ (by simp))
    simp only [Nat.add_zero] at hst
    simp [Builtin.clear_, run_underlying ht, hv, hst]
end Go.Proofs.YtjliagcalbdnhaaGreatDoor
