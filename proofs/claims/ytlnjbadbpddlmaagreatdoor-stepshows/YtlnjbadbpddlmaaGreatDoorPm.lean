/-
  A slice that is a call's own, of elements of C cells each: an element set, the end struck off (clear), and what a list of elements makes of it. No condition.
  A slice of entries that a call made itself: an element's cells, its block; several cells written. No condition.
  Small facts for appends in a region that draws its order: what was there stays, a new block's cells stay. No condition.
  Contract of slices.Insert of one entry, at a slice of entries that the call made itself: where there is room and where there is none. Conditions: the place lies within the slice; the entry lies in a block of its own; the slice has at most 1000 entries.
  Contracts of the landed package merge's closure that tells an entry that isn't less, of slices.IndexFunc with it, and of placed, which puts an entry in its place. Conditions: the slice is the call's own, ascending, nothing in it at the entry's path; at most 1000 entries.
  The contract of the landed package merge's opened: a slice of entries of the call's own with a directory laid over it. Conditions: the slice is the call's own, ascending; at most 999 entries.
  Contracts of slices.Grow of nil and of slices.Concat, of lists of entries. Conditions: the lists lie in memory, have at most 2000 entries in all.
  Contracts of slices.Clone of entries, of the landed package merge's closure that tells what goes with a path, and of slices.IndexFunc and slices.DeleteFunc with it. Conditions: the list lies in memory, has at most 1000 entries, texts of at most 100000 bytes.
  The contract of the landed package merge's One: one entry laid over a layer. Conditions: the layer lies in memory, its entries are right and rise; at most 900 of them; the entry is right.
  The contract of the landed package merge's Bottom: a slice of entries at the bottom. Conditions: the slice lies in memory; at most 1000 entries.
  The landed package merge's Two and Bottom answer as Two15 and Bot15 say. No condition beyond these.
-/
import Derived.Test.YtlnjbadbpddlmaaGreatDoorPc
import Derived.Laws.IdiomCopy
import Derived.Lib.SliceRun
import Derived.Lib.Overlaps
import Derived.Lib.AppendZerosOnto
import Derived.Laws.Externs
import Derived.Laws.NewBlocks
import Derived.Shelf.RegionOpenPlain
import Derived.Test.YtlnjbadbpddlmaaGreatDoorPb
import Derived.Test.YtlnjbadbpddlmaaGreatDoorPh
import Derived.Lib.Walk
import Derived.Deep.LoopGhost
import Derived.Lib.Hide
import Derived.IntWalk
import Derived.Test.YtlnjbadbpddlmaaGreatDoorPa
import Derived.Test.YtlnjbadbpddlmaaGreatDoorPd
import Derived.Test.YtlnjbadbpddlmaaGreatDoorAtEr
namespace Go.Proofs.YtlnjbadbpddlmaaGreatDoor
open Go.RowKit

theorem heap_setCells_at (t : TypeId) : ∀ (vs : List Value) (w : World) (g o : Nat) (cur : Array Value), w.heap[g]? = some (.cells cur t (0, 0)) →
    ∃ cur', (w.setCells g o vs).heap[g]? = some (.cells cur' t (0, 0)) ∧ cur'.size = cur.size ∧ ∀ j, j < cur.size → cur'[j]? = if o ≤ j ∧ j < o + vs.length then vs[j - o]? else cur[j]?
  | [], w, g, o, cur, h => ⟨cur, h, rfl, fun j _ => by rw [if_neg (fun h => by have := h.2; rw [List.length_nil] at this; omega)]⟩
  | v :: r, w, g, o, cur, h => by
    have h1 : (w.setCell ⟨g, o, none⟩ v).heap[g]? = some (.cells (cur.setIfInBounds o v) t (0, 0)) := by simp [World.setCell, Array.getElem?_modify, h]
    obtain ⟨cur', h2, h3, h4⟩ := heap_setCells_at t r (w.setCell ⟨g, o, none⟩ v) g (o + 1) _ h1
    refine ⟨cur', h2, by simpa using h3, fun j hj => ?_⟩
    rw [h4 j (by simpa using hj)]
    by_cases e : j = o
    · subst e
      rw [if_neg (by omega), if_pos (by simp), Array.getElem?_setIfInBounds]
      simp [hj]
    · by_cases h5 : o + 1 ≤ j ∧ j < o + 1 + r.length
      · rw [if_pos h5, if_pos (by simp; omega), show j - o = (j - (o + 1)) + 1 by omega]
        simp
      · rw [if_neg h5, if_neg (by simp; omega), Array.getElem?_setIfInBounds, if_neg (by omega)]

section
variable {w : World} {B : Nat} {e : TypeId} {C g n cap : Nat} {xs : List Value}
theorem owns_put (h : w.ownsRow B e C (.slice (some ⟨g, 0, none⟩) n cap) n xs) (o : Nat) (vs : List Value) (ho : o + vs.length ≤ n * C) :
    (w.setCells g o vs).ownsRow B e C (.slice (some ⟨g, 0, none⟩) n cap) n (xs.take o ++ vs ++ xs.drop (o + vs.length)) := by
  obtain ⟨hl, ⟨h2, _⟩ | ⟨g', cap', cur, h2, hg, hb, hcap, hm, hsz, ht⟩⟩ := h
  · cases h2
  · cases h2
    obtain ⟨cur', c1, c2, c3⟩ := heap_setCells_at e vs w g o cur hb
    have hnc : n * C ≤ cap * C := Nat.mul_le_mul_right _ hcap
    refine ⟨by simp; omega, .inr ⟨g, cap, cur', rfl, hg, c1, hcap, hm, c2.trans hsz, ?_⟩⟩
    apply List.ext_getElem?
    intro j
    by_cases hj : j < n * C
    · rw [List.getElem?_take, if_pos hj, Array.getElem?_toList, c3 j (by omega)]
      have hx : xs[j]? = cur[j]? := by rw [← ht, List.getElem?_take, if_pos hj, Array.getElem?_toList]
      by_cases h1 : o ≤ j ∧ j < o + vs.length
      · rw [if_pos h1, List.getElem?_append_left (by simp; omega), List.getElem?_append_right (by simp; omega)]
        congr 1
        simp
        omega
      · rw [if_neg h1]
        by_cases h3 : j < o
        · rw [List.getElem?_append_left (by simp; omega), List.getElem?_append_left (by simp; omega), List.getElem?_take, if_pos h3, hx]
        · rw [List.getElem?_append_right (by simp; omega), List.getElem?_drop, ← hx]
          congr 1
          simp
          omega
    · rw [List.getElem?_eq_none (by simp; omega), List.getElem?_eq_none (by simp; omega)]
theorem owns_cut (h : w.ownsRow B e C (.slice (some ⟨g, 0, none⟩) n cap) n xs) {m : Nat} (hm : m ≤ n) (vs : List Value) : (w.setCells g (m * C) vs).ownsRow B e C (.slice (some ⟨g, 0, none⟩) m cap) m (xs.take (m * C)) := by
  obtain ⟨hl, ⟨h2, _⟩ | ⟨g', cap', cur, h2, hg, hb, hcap, hm2, hsz, ht⟩⟩ := h
  · cases h2
  · cases h2
    obtain ⟨cur', c1, c2, c3⟩ := heap_setCells_at e vs w g (m * C) cur hb
    have hnc : n * C ≤ cap * C := Nat.mul_le_mul_right _ hcap
    have hmn : m * C ≤ n * C := Nat.mul_le_mul_right _ hm
    refine ⟨by simp; omega, .inr ⟨g, cap, cur', rfl, hg, c1, by omega, hm2, c2.trans hsz, ?_⟩⟩
    apply List.ext_getElem?
    intro j
    rw [List.getElem?_take, List.getElem?_take]
    split
    · rename_i hj
      have hx : xs[j]? = cur[j]? := by rw [← ht, List.getElem?_take, if_pos (by omega), Array.getElem?_toList]
      rw [Array.getElem?_toList, c3 j (by omega), if_neg (by omega), hx]
    · rfl
/-- The cells of an owned row are there. -/
theorem owns_there (h : w.ownsRow B e C (.slice (some ⟨g, 0, none⟩) n cap) n xs) {o m : Nat} (ho : o + m ≤ cap * C) : w.there g o m := by
  obtain ⟨hl, ⟨h2, _⟩ | ⟨g', cap', cur, h2, hg, hb, hcap, hm2, hsz, ht⟩⟩ := h
  · cases h2
  · cases h2
    intro j hj
    have h8 : o + j < cur.size := by omega
    simp [World.cell?, World.frozen?, hb, Array.getElem?_eq_getElem h8]
end
section
variable {α : Type} {C : Nat} {f : α → List Value}
theorem flat_take : ∀ (l : List α), (∀ x ∈ l, (f x).length = C) → ∀ m, (l.take m).flatMap f = (l.flatMap f).take (m * C)
  | [], _, m => by simp
  | x :: r, hC, 0 => by simp
  | x :: r, hC, m + 1 => by
    have h1 := hC x List.mem_cons_self
    have e1 : (m + 1) * C = (f x).length + m * C := by rw [h1, Nat.succ_mul]; omega
    rw [List.take_succ_cons, List.flatMap_cons, List.flatMap_cons, flat_take r (fun y hy => hC y (List.mem_cons_of_mem _ hy)) m, e1, List.take_length_add_append]
theorem flat_set : ∀ (l : List α), (∀ x ∈ l, (f x).length = C) → ∀ i x, i < l.length → (f x).length = C → (l.set i x).flatMap f = (l.flatMap f).take (i * C) ++ f x ++ (l.flatMap f).drop (i * C + C)
  | [], _, i, x, hi, _ => by simp at hi
  | y :: r, hC, 0, x, _, hx => by
    have h1 := hC y List.mem_cons_self
    simp [← h1]
  | y :: r, hC, i + 1, x, hi, hx => by
    have h1 := hC y List.mem_cons_self
    have ih := flat_set r (fun y hy => hC y (List.mem_cons_of_mem _ hy)) i x (by simpa using hi) hx
    have e1 : (i + 1) * C = (f y).length + i * C := by rw [h1, Nat.succ_mul]; omega
    have e2 : (i + 1) * C + C = (f y).length + (i * C + C) := by rw [e1]; omega
    rw [List.set_cons_succ, List.flatMap_cons, List.flatMap_cons, ih, e2, e1, List.take_length_add_append, List.drop_length_add_append]
    simp
end
/-- clear(s[..]) of a row's end. -/
theorem run_clear_any {P : Program} (w : World) (t e : TypeId) (z : Value) (C : Nat) (ht : P.underlying t = some (.slice e)) (hv : ∀ w, (zeroValue e).run P w = .ok z w) (hzs : z.cells.size = C) (hC : 0 < C) (h1 : ∀ u ∈ z.cells.toList, u.oneCell' = true) (b o n c : Nat) (hth : w.there b o (n * C)) :
    ∃ vs : List Value, vs.length = n * C ∧ ∀ ty, (Builtin.clear_ #[t] ty #[.slice (some ⟨b, o, none⟩) n c]).run P w = .ok (.tuple #[]) (w.setCells b o vs) := by
  rcases n with _ | n
  · exact ⟨[], by simp, fun ty => by simp [Builtin.clear_, run_underlying ht, World.setCells]⟩
  · refine ⟨(Builtin.zeroCells z.cells (n + 1)).toList, by simp [Builtin.zeroCells, hzs], fun ty => ?_⟩
    have hlen : (Builtin.zeroCells z.cells (n + 1)).toList.length = (n + 1) * C := by simp [Builtin.zeroCells, hzs]
    have hst := run_storeCells_cells (P := P) b o (Builtin.zeroCells z.cells (n + 1)).toList 0 w (fun j hj => by rw [hlen] at hj; exact (hth j hj).1) (fun j hj => by rw [hlen] at hj; exact (hth j hj).2) (fun v hv' => by
      simp only [Builtin.zeroCells, Array.toList_map, List.mem_map] at hv'
      obtain ⟨j, _, rfl⟩ := hv'
      have hj : j % z.cells.size < z.cells.size := Nat.mod_lt _ (by omega)
      rw [getElem!_pos z.cells _ hj]
      exact h1 _ (by simp))
    simp only [Nat.add_zero] at hst
    simp [Builtin.clear_, run_underlying ht, hv, hst]
end Go.Proofs.YtlnjbadbpddlmaaGreatDoor

namespace Go.Proofs.YtlnjbadbpddlmaaGreatDoor
open Go.RowKit

theorem enc_len14 (l : List Ent) : ∀ x ∈ l, (enc x).length = 3 := fun _ _ => rfl
theorem zero_en14 (w : World) : (zeroValue 41).run Tryz.prog w = .ok (entV ⟨#[]⟩ 0 ⟨#[]⟩) w := by kernel_rfl
/-- The cells of an owned row's j-th entry. -/
theorem own_cell14 {w : World} {B g n cap : Nat} {M : List Ent} (h : w.ownsRow B 41 3 (.slice (some ⟨g, 0, none⟩) n cap) n (M.flatMap enc)) {j : Nat} {x : Ent} (hx : M[j]? = some x) (hj : j < n) {i : Nat} {u : Value} (hi : (enc x)[i]? = some u) : w.cell? ⟨g, j * 3 + i, none⟩ = some u ∧ w.frozen? ⟨g, j * 3 + i, none⟩ = false := by
  have hi3 : i < 3 := (List.getElem?_eq_some_iff.1 hi).1
  obtain ⟨_, ⟨h9, _⟩ | ⟨g', cap', cur, h9, _, hbk, _, _, _, ht⟩⟩ := h
  · cases h9
  · cases h9
    have h1 := flat_get M j i hi3
    rw [hx, Option.bind_some, hi, ← ht, List.getElem?_take_of_lt (by omega), Array.getElem?_toList] at h1
    exact cell_of8 hbk h1
theorem own_lt14 {w : World} {B g n cap : Nat} {xs : List Value} {t : TypeId} {C : Nat} (h : w.ownsRow B t C (.slice (some ⟨g, 0, none⟩) n cap) n xs) : B ≤ g ∧ g < w.heap.size ∧ n ≤ cap := by
  obtain ⟨_, ⟨h9, _⟩ | ⟨g', cap', cur, h9, hg, hbk, hc, _⟩⟩ := h
  · cases h9
  · cases h9
    exact ⟨hg, (Array.getElem?_eq_some_iff.1 hbk).1, hc⟩
theorem own_below14 {w w' : World} {B g n cap : Nat} {xs : List Value} {t : TypeId} {C : Nat} (h : w.ownsRow B t C (.slice (some ⟨g, 0, none⟩) n cap) n xs) (hb : w'.heap[g]? = w.heap[g]?) : w'.ownsRow B t C (.slice (some ⟨g, 0, none⟩) n cap) n xs := by
  obtain ⟨h1, ⟨h9, _⟩ | ⟨g', cap', cur, h9, hg, hbk, hc⟩⟩ := h
  · cases h9
  · cases h9
    exact ⟨h1, .inr ⟨g, cap, cur, rfl, hg, hb.trans hbk, hc⟩⟩
theorem below_cells14 {B : Nat} {w0 : World} : ∀ (vs : List Value) (w : World) (g o : Nat), Below B w0 w → B ≤ g → Below B w0 (w.setCells g o vs)
  | [], _, _, _, h, _ => h
  | v :: r, w, g, o, h, hg => by
    rw [World.setCells]
    exact below_cells14 r _ g (o + 1) (h.setCell (p := ⟨g, o, none⟩) hg v) hg
theorem cells_other14 : ∀ (vs : List Value) (w : World) (g o j : Nat), j ≠ g → (w.setCells g o vs).heap[j]? = w.heap[j]?
  | [], _, _, _, _, _ => rfl
  | v :: r, w, g, o, j, h => by
    rw [World.setCells]
    exact (cells_other14 r _ g (o + 1) j h).trans (Below.heap_setCell _ _ _ _ (fun e => h e))
theorem own_gen14 {w w' : World} {B : Nat} {t : TypeId} {sz : Nat} {v : Value} {n : Nat} {xs : List Value} (h : w.ownsRow B t sz v n xs) (hb : ∀ k, v.ownBlock = some k → w'.heap[k]? = w.heap[k]?) : w'.ownsRow B t sz v n xs := by
  obtain ⟨h1, ⟨rfl, h2⟩ | ⟨g, cap, cur, rfl, h3, h4, h5⟩⟩ := h
  · exact ⟨h1, .inl ⟨rfl, h2⟩⟩
  · exact ⟨h1, .inr ⟨g, cap, cur, rfl, h3, (hb g rfl).trans h4, h5⟩⟩
theorem own_some14 {w : World} {B : Nat} {t : TypeId} {sz : Nat} {a : Option Addr} {m c n : Nat} {xs : List Value} (h : w.ownsRow B t sz (.slice a m c) n xs) (hn : 0 < n) : ∃ g, a = some ⟨g, 0, none⟩ := by
  obtain ⟨_, ⟨_, h2⟩ | ⟨g, cap, cur, h9, _⟩⟩ := h
  · omega
  · cases h9
    exact ⟨g, rfl⟩
end Go.Proofs.YtlnjbadbpddlmaaGreatDoor

namespace Go.Proofs.YtlnjbadbpddlmaaGreatDoor
open Go.RowKit

theorem ownsE_new (w : World) (B N : Nat) (hN : N = w.heap.size) (hB : B ≤ N) (e : TypeId) (size : Nat) : (w.alloc (.cells #[] e)).ownsRow B e size (.slice (some ⟨N, 0, none⟩) 0 0) 0 [] := by
  subst hN
  exact ⟨by simp, .inr ⟨w.heap.size, 0, #[], rfl, hB, heap_alloc_new w _, Nat.le_refl _, by unfold maxLen; omega, by simp, by simp⟩⟩
theorem rngE_drew {w : World} {N : Nat} {cs : List Value} (h : w.rangeAt N 0 cs) : w.drew.rangeAt N 0 cs := h
theorem rngE_alloc {w : World} {N : Nat} {cs : List Value} {o : Obj} (h : w.rangeAt N 0 cs) (hN : N < w.heap.size) : (w.alloc o).rangeAt N 0 cs := fun j v hv => (World.cell?_alloc_past _ _ _ hN).trans (h j v hv)
theorem rngE_new (w : World) (N : Nat) (hN : N = w.heap.size) (cs : List Value) (t : TypeId) : (w.alloc (.cells cs.toArray t)).rangeAt N 0 cs := fun j v hv => by
  rw [World.cell?_alloc_at _ _ _ _ hN, Nat.zero_add]
  simpa using hv
theorem rngE_one (w : World) (N : Nat) (hN : N = w.heap.size) (v : Value) (t : TypeId) : (w.alloc (.cells #[v] t)).rangeAt N 0 [v] := rngE_new w N hN [v] t
theorem grownE_step {w3 W w' : World} {B : Nat} {row : Option Nat} {G : Prop} (h : Below B w3 W) (hg : W.grownBy w' row) (hB : B ≤ W.heap.size) (hr : ∀ k, row = some k → B ≤ k) (k : Below B w3 w' → B ≤ w'.heap.size → G) : G :=
  k (h.grown hg hB hr) (Nat.le_trans hB hg.size)
theorem rngE_step {W w' : World} {row : Option Nat} {N : Nat} {cs : List Value} {G : Prop} (h : W.rangeAt N 0 cs) (hg : W.grownBy w' row) (hN : N < W.heap.size) (hr : some N ≠ row) (k : w'.rangeAt N 0 cs → N < w'.heap.size → G) : G :=
  k (fun j u hu => by
    rw [World.cell?_of_block (w := W) (hg.block N hN hr)]
    exact h j u hu) (Nat.lt_of_lt_of_le hN hg.size)
theorem srcE_some {w : World} {N : Nat} {cs : List Value} {ad : Addr} (e : some (⟨N, 0, none⟩ : Addr) = some ad) (h : w.rangeAt N 0 cs) : ∀ j u, cs[j]? = some u → w.cell? (ad.add j) = some u := by
  cases e
  intro j u hu
  rw [Addr.add_lit]
  exact h j u hu
end Go.Proofs.YtlnjbadbpddlmaaGreatDoor

namespace Go.Proofs.YtlnjbadbpddlmaaGreatDoor
open Go.RowKit

/-- copy of elements of several cells. -/
theorem run_copy_any15 {P : Program} (w : World) (dT sT ty elem : TypeId) (C b o dLen dCap : Nat) (a : Addr) (sLen sCap n : Nat) (cs : List Value) (hu : P.underlying dT = some (.slice elem)) (hs : (P.info? elem).map (·.size) = some C) (hm : Nat.min sLen dLen = n) (hn : n * C = cs.length)
    (hsrc : ∀ j v, cs[j]? = some v → w.cell? (a.add j) = some v) (hth : w.there b o cs.length) (h1 : ∀ v ∈ cs, v.oneCell' = true) :
    (Builtin.copy_ #[dT, sT] ty #[.slice (some ⟨b, o, none⟩) dLen dCap, .slice (some a) sLen sCap]).run P w = .ok (goInt n) (w.setCells b o cs) := by
  have hl := run_loadCells_list (P := P) w a cs hsrc
  have hst := run_storeCells_cells (P := P) b o cs 0 w (fun j hj => by simpa using (hth j hj).1) (fun j hj => by simpa using (hth j hj).2) h1
  cases hq : P.info? elem with
  | none => simp [hq] at hs
  | some i =>
    have hi : i.size = C := by simpa [hq] using hs
    simp [Builtin.copy_, run_underlying hu, Builtin.lenOf, Builtin.firstCells, sizeOf, typeInfo, hq, hi, hm, hn, hl, hst]
theorem wp_copy15 {P : Program} (w : World) {o : Oper} {a : Act} {K : Act → World → Prop} {Q : Exit → Act → World → Prop} (d s : Operand) (t u : TypeId) (ho : o.op = .call { callee := .builtin .copy, args := #[d, s], argTypes := #[t, u] }) (x y : Value) (hd : a.eval d = x) (hs : a.eval s = y) {v : Value} {w' : World}
    (hr : (Builtin.copy_ #[t, u] o.type #[x, y]).run P w = .ok v w') (h : K (a.put o.dst v) w') : o.wp P a w K Q := by
  unfold Oper.wp execOp
  simp only [ho, resolve, invoke, builtin, Sem.run_bind, Sem.run_pure, Result.andThen_ok, List.map_toArray, List.map_cons, List.map_nil, hd, hs, hr]
  exact h
theorem wl_copy15 {P : Program} (w : World) {ops : Array Oper} {rest : List Oper} {o : Oper} {a : Act} {Q : Exit → Act → World → Prop} (hgd : o.guard = none) (d s : Operand) (t u : TypeId) (ho : o.op = .call { callee := .builtin .copy, args := #[d, s], argTypes := #[t, u] }) (x y : Value) (hd : a.eval d = x) (hs : a.eval s = y) {v : Value} {w' : World}
    (hr : (Builtin.copy_ #[t, u] o.type #[x, y]).run P w = .ok v w') (h : wpList P ops Q rest (a.put o.dst v) w') : wpList P ops Q (o :: rest) a w :=
  wpList_plain hgd fun _ hK => wp_copy15 w d s t u ho x y hd hs hr (hK _ _ h)
theorem step_copy15 {P : Program} {ops : Array Oper} {o : Oper} {a : Act} {w : World} {K : Act → World → Prop} {Q : Exit → Act → World → Prop} {E : Prop} (hg : o.guard = none) (d s : Operand) (t u : TypeId) (ho : o.op = .call { callee := .builtin .copy, args := #[d, s], argTypes := #[t, u] }) (x y : Value) (hd : a.eval d = x) (hs : a.eval s = y) {v : Value} {w' : World}
    (hr : (Builtin.copy_ #[t, u] o.type #[x, y]).run P w = .ok v w') (h : K (a.put o.dst v) w') : if Region.wanted o (yielded ops a.tmps) = true then Oper.wp P o a w K Q else E := by
  rw [if_pos (by simp [Region.wanted, hg])]
  exact wp_copy15 w d s t u ho x y hd hs hr h
/-- A row of one's own with one element more, whatever lies there. -/
theorem owns_more15 {w : World} {B : Nat} {e : TypeId} {C g n cap : Nat} {xs : List Value} (h : w.ownsRow B e C (.slice (some ⟨g, 0, none⟩) n cap) n xs) (hc : n + 1 ≤ cap) : ∃ ys : List Value, ys.length = C ∧ w.ownsRow B e C (.slice (some ⟨g, 0, none⟩) (n + 1) cap) (n + 1) (xs ++ ys) := by
  obtain ⟨hl, ⟨h2, _⟩ | ⟨g', cap', cur, h2, hg, hb, hcap, hm, hsz, ht⟩⟩ := h
  · cases h2
  · cases h2
    have h3 : (n + 1) * C = n * C + C := Nat.succ_mul _ _
    have h4 : (n + 1) * C ≤ cap * C := Nat.mul_le_mul_right _ hc
    have h5 : cur.toList.length = cap * C := by rw [Array.length_toList, hsz]
    refine ⟨(cur.toList.drop (n * C)).take C, by rw [List.length_take, List.length_drop]; omega, ?_, .inr ⟨g, cap, cur, rfl, hg, hb, hc, hm, hsz, ?_⟩⟩
    · rw [List.length_append, hl, List.length_take, List.length_drop]
      omega
    · rw [← ht, h3, List.take_add]
theorem enc_len15 (l : List Ent) : (l.flatMap enc).length = l.length * 3 := flat_len l (enc_len14 l)
theorem enc_one15 {l : List Ent} : ∀ v ∈ l.flatMap enc, v.oneCell' = true := by
  intro v hv
  obtain ⟨x, _, hx⟩ := List.mem_flatMap.1 hv
  rcases List.mem_cons.1 hx with rfl | hx
  · rfl
  rcases List.mem_cons.1 hx with rfl | hx
  · rfl
  rcases List.mem_cons.1 hx with rfl | hx
  · rfl
  cases hx
theorem enc_single15 (e : Ent) : [e].flatMap enc = enc e := by simp
/-- The cells of a list written into a row of one's own, behind k elements: the last ones, then one. -/
theorem owns_ins15 {w : World} {B g cap n k : Nat} {l : List Ent} {xs : List Value} (e : Ent) (h : w.ownsRow B 41 3 (.slice (some ⟨g, 0, none⟩) (n + 1) cap) (n + 1) xs) (hn : l.length = n) (hk : k ≤ n) (hxs : xs.take (k * 3) = (l.take k).flatMap enc) :
    OwnE ((w.setCells g ((k + 1) * 3) ((l.drop k).flatMap enc)).setCells g (k * 3) (enc e)) B (.slice (some ⟨g, 0, none⟩) (n + 1) cap) (l.take k ++ e :: l.drop k) ∧ ∀ w2 : World, w2.heap[g]? = (w.setCells g (k * 3) (enc e)).heap[g]? → OwnE (w2.setCells g ((k + 1) * 3) ((l.drop k).flatMap enc)) B (.slice (some ⟨g, 0, none⟩) (n + 1) cap) (l.take k ++ e :: l.drop k) := by
  have hl := h.1
  have hd : ((l.drop k).flatMap enc).length = (n - k) * 3 := by rw [enc_len15, List.length_drop, hn]
  have htl : ((l.take k).flatMap enc).length = k * 3 := by rw [enc_len15, List.length_take]; omega
  have hlen : (l.take k ++ e :: l.drop k).length = n + 1 := by rw [List.length_append, List.length_cons, List.length_take, List.length_drop]; omega
  have hf : (l.take k ++ e :: l.drop k).flatMap enc = xs.take (k * 3) ++ enc e ++ (l.drop k).flatMap enc := by rw [hxs, List.flatMap_append, List.flatMap_cons, List.append_assoc]
  have he : (enc e).length = 3 := rfl
  have hxt : (xs.take (k * 3)).length = k * 3 := by rw [hxs, htl]
  constructor
  · have h1 := owns_put h ((k + 1) * 3) ((l.drop k).flatMap enc) (by rw [hd]; omega)
    have h2 := owns_put h1 (k * 3) (enc e) (by rw [he]; omega)
    unfold OwnE
    rw [hlen, hf]
    have e1 : xs.drop ((k + 1) * 3 + ((l.drop k).flatMap enc).length) = [] := List.drop_eq_nil_iff.2 (by rw [hd]; omega)
    rw [e1, List.append_nil] at h2
    have e2 : (xs.take ((k + 1) * 3) ++ (l.drop k).flatMap enc).take (k * 3) = xs.take (k * 3) := by
      rw [List.take_append_of_le_length (by rw [List.length_take]; omega), List.take_take]
      congr 1
      omega
    have e3 : (xs.take ((k + 1) * 3) ++ (l.drop k).flatMap enc).drop (k * 3 + (enc e).length) = (l.drop k).flatMap enc := by
      rw [he, show k * 3 + 3 = (xs.take ((k + 1) * 3)).length by rw [List.length_take]; omega, List.drop_left]
    rw [e2, e3] at h2
    exact h2
  · intro w2 hw2
    have h1 := own_below14 (owns_put h (k * 3) (enc e) (by rw [he]; omega)) hw2
    have h2 := owns_put h1 ((k + 1) * 3) ((l.drop k).flatMap enc) (by rw [hd]; omega)
    unfold OwnE
    rw [hlen, hf]
    have e1 : (xs.take (k * 3) ++ enc e ++ xs.drop (k * 3 + (enc e).length)).take ((k + 1) * 3) = xs.take (k * 3) ++ enc e := by
      rw [show (k + 1) * 3 = (xs.take (k * 3) ++ enc e).length by rw [List.length_append, hxt, he]; omega, List.take_left]
    have e2 : (xs.take (k * 3) ++ enc e ++ xs.drop (k * 3 + (enc e).length)).drop ((k + 1) * 3 + ((l.drop k).flatMap enc).length) = [] := List.drop_eq_nil_iff.2 (by rw [List.length_append, List.length_append, hxt, he, List.length_drop, hd]; omega)
    rw [e1, e2, List.append_nil] at h2
    exact h2
theorem sizeEn15 : (Tryz.prog.info? 41).map (·.size) = some 3 := by kernel_rfl
theorem run_sizeEn15 (w : World) : (Go.sizeOf 41).run Tryz.prog w = .ok 3 w := by kernel_rfl
theorem run_ovl15 (w : World) (M g : Nat) (e : Ent) (hMg : M ≠ g) (hM : w.heap[M]? = some (.cells (enc e).toArray 41 (0, 0))) (cur : Array Value) (hg : w.heap[g]? = some (.cells cur 41 (0, 0))) (h0 : cur.size ≠ 0) (o lb cb : Nat) :
    (callFunc 77 #[.slice (some ⟨M, 0, none⟩) 1 1, .slice (some ⟨g, o, none⟩) lb cb]).run Tryz.prog w = .ok (.value (.bool false)) w := by
  rw [run_callFunc_extern Tryz.func77 (by kernel_rfl) (by kernel_rfl) (by kernel_rfl) (e := Extern.SlicesOverlaps.overlaps #[23, 23] #[4]) (by kernel_rfl),
    Lib.run_overlaps_apart w 23 4 41 Tryz.underlying23 3 run_sizeEn15 ⟨M, 0, none⟩ ⟨g, o, none⟩ 1 1 lb cb hMg 41 41 3 cur.size (by simp [World.shape?, hM]) (by simp [World.shape?, hg]) h0 (by simp [World.frozen?, hM]) (by simp [World.frozen?, hM])]
  rfl
set_option maxRecDepth 100000 in
set_option maxHeartbeats 4000000 in
/-- There is room. -/
theorem ins_room15 (l : List Ent) (e : Ent) (k n g cap M B : Nat) (w : World) (h : OwnE w B (.slice (some ⟨g, 0, none⟩) l.length cap) l) (hn : l.length = n) (hk : k < n) (hroom : n + 1 ≤ cap) (hn0 : n ≤ 1000) (hMg : M ≠ g) (hM : w.heap[M]? = some (.cells (enc e).toArray 41 (0, 0))) :
    Calls Tryz.prog 59 #[.slice (some ⟨g, 0, none⟩) n cap, .int .i64 (k : Int), .slice (some ⟨M, 0, none⟩) 1 1] w fun r w' => r = .returned (.slice (some ⟨g, 0, none⟩) (n + 1) cap) ∧ OwnE w' B (.slice (some ⟨g, 0, none⟩) (n + 1) cap) (l.take k ++ e :: l.drop k) ∧ Below B w w' := by
  unfold OwnE at h
  rw [hn] at h
  obtain ⟨ys, hy, hrow⟩ := owns_more15 h hroom
  have hBg := (own_lt14 h).1
  have hcm : cap ≤ maxLen := by
    obtain ⟨_, ⟨h2, _⟩ | ⟨g', cap', cur, h2, hg, hb, hcap, hm, hsz, ht⟩⟩ := h
    · cases h2
    · cases h2
      exact hm
  obtain ⟨cur, hg, hsz⟩ : ∃ cur, w.heap[g]? = some (.cells cur 41 (0, 0)) ∧ cur.size = cap * 3 := by
    obtain ⟨_, ⟨h2, _⟩ | ⟨g', cap', cur, h2, hg, hb, hcap, hm, hsz, ht⟩⟩ := h
    · cases h2
    · cases h2
      exact ⟨cur, hb, hsz⟩
  have hxl : (l.flatMap enc).length = n * 3 := by rw [enc_len15, hn]
  have hdl : ((l.drop k).flatMap enc).length = (n - k) * 3 := by rw [enc_len15, List.length_drop, hn]
  have hdrop : ∀ j v, ((l.drop k).flatMap enc)[j]? = some v → w.cell? ⟨g, k * 3 + j, none⟩ = some v := by
    intro j v hj
    have hj3 : j < (n - k) * 3 := by rw [← hdl]; exact (List.getElem?_eq_some_iff.1 hj).1
    have h1 : (l.flatMap enc)[k * 3 + j]? = some v := by
      conv => lhs; rw [← List.take_append_drop k l, List.flatMap_append]
      have e1 : ((l.take k).flatMap enc).length = k * 3 := by rw [enc_len15, List.length_take]; omega
      rw [List.getElem?_append_right (by omega), e1, Nat.add_sub_cancel_left]
      exact hj
    obtain ⟨_, ⟨h2, _⟩ | ⟨g', cap', cur', h2, _, hb, _, _, _, ht⟩⟩ := h
    · cases h2
    · cases h2
      rw [← ht, List.getElem?_take_of_lt (by omega), Array.getElem?_toList] at h1
      rw [Lib.cell_of_heap hb]
      exact h1
  have hout := owns_ins15 (k := k) e hrow hn (by omega) (by rw [List.take_append_of_le_length (by omega), show (l.flatMap enc).take (k * 3) = (l.take k).flatMap enc from (flat_take l (enc_len14 l) k).symm])
  have HOUT := Lib.hid (show OwnE ((w.drew.setCells g ((k + 1) * 3) ((l.drop k).flatMap enc)).setCells g (k * 3) (enc e)) B (.slice (some ⟨g, 0, none⟩) (n + 1) cap) (l.take k ++ e :: l.drop k) by
    have hrow' : w.drew.ownsRow B 41 3 (.slice (some ⟨g, 0, none⟩) (n + 1) cap) (n + 1) (l.flatMap enc ++ ys) := own_below14 hrow rfl
    exact (owns_ins15 (k := k) e hrow' hn (by omega) (by rw [List.take_append_of_le_length (by omega), show (l.flatMap enc).take (k * 3) = (l.take k).flatMap enc from (flat_take l (enc_len14 l) k).symm])).1)
  have HBL := Lib.hid (show Below B w ((w.drew.setCells g ((k + 1) * 3) ((l.drop k).flatMap enc)).setCells g (k * 3) (enc e)) from below_cells14 _ _ _ _ (below_cells14 _ _ _ _ (Below.refl B w).drew hBg) hBg)
  have hth : w.drew.there g ((k + 1) * 3) ((n - k) * 3) := owns_there (own_below14 hrow rfl) (by omega)
  have hcp1 : ∀ ty dc sc, (Builtin.copy_ #[23, 23] ty #[.slice (some ⟨g, (k + 1) * 3, none⟩) (n - k) dc, .slice (some ⟨g, k * 3, none⟩) (n + 1 - k) sc]).run Tryz.prog w.drew = .ok (goInt ((n - k : Nat) : Int)) (w.drew.setCells g ((k + 1) * 3) ((l.drop k).flatMap enc)) := fun ty dc sc =>
    run_copy_any15 w.drew _ _ ty 41 3 g ((k + 1) * 3) (n - k) dc ⟨g, k * 3, none⟩ (n + 1 - k) sc (n - k) _ Tryz.underlying23 sizeEn15 (by simp only [Nat.min_def]; split <;> omega) hdl.symm (fun j v hj => by rw [Addr.add_lit]; exact hdrop j v hj) (by rw [hdl]; exact hth) enc_one15
  obtain ⟨W1, hW1⟩ : ∃ W1, w.drew.setCells g ((k + 1) * 3) ((l.drop k).flatMap enc) = W1 := ⟨_, rfl⟩
  have hth2 : W1.there g (k * 3) 3 := by
    rw [← hW1]
    exact owns_there (owns_put (own_below14 hrow rfl : w.drew.ownsRow B 41 3 _ (n + 1) _) ((k + 1) * 3) _ (by rw [hdl]; omega)) (by omega)
  have hM1 : W1.heap[M]? = some (.cells (enc e).toArray 41 (0, 0)) := by
    rw [← hW1]
    exact (cells_other14 _ _ _ _ _ hMg).trans hM
  have hcp2 : ∀ ty dc, (Builtin.copy_ #[23, 23] ty #[.slice (some ⟨g, k * 3, none⟩) (n + 1 - k) dc, .slice (some ⟨M, 0, none⟩) 1 1]).run Tryz.prog W1 = .ok (goInt 1) (W1.setCells g (k * 3) (enc e)) := fun ty dc =>
    run_copy_any15 W1 _ _ ty 41 3 g (k * 3) (n + 1 - k) dc ⟨M, 0, none⟩ 1 1 1 (enc e) Tryz.underlying23 sizeEn15 (by simp only [Nat.min_def]; split <;> omega) rfl (fun j v hj => by
      rw [Addr.add_lit, Nat.zero_add, Lib.cell_of_heap hM1]
      simpa using hj) hth2 (by intro v hv; exact enc_one15 (l := [e]) v (by rw [enc_single15]; exact hv))
  rw [hW1] at hcp1 HOUT HBL
  have hov : ∀ o lb cb, (callFunc 77 #[.slice (some ⟨M, 0, none⟩) 1 1, .slice (some ⟨g, o, none⟩) lb cb]).run Tryz.prog w = .ok (.value (.bool false)) w := fun o lb cb => run_ovl15 w M g e hMg hM cur hg (by omega) o lb cb
  have hw0 : IntKind.i64.wrap ((n : Int) + 1) = (n : Int) + 1 := IntWalk.i64_in _ (by omega)
  have hw1 : IntKind.i64.wrap ((k : Int) + 1) = (k : Int) + 1 := IntWalk.i64_in _ (by omega)
  have hz2 : ¬ ((k : Int) = (n : Int)) := by omega
  have hgt : ¬ ((cap : Int) < (n : Int) + 1) := by omega
  have hb1 : (0 : Int) ≤ (k : Int) + 1 := by omega
  have hin : (k : Int) ≤ (n : Int) := by omega
  have hb3 : (k : Int) ≤ (n : Int) + 1 := by omega
  have hb2 : ¬ (cap = k + 1) := by omega
  have hb4 : ¬ (cap = k) := by omega
  have htn : ((k : Int) + 1).toNat = k + 1 := by omega
  have htn2 : ((n : Int) + 1).toNat = n + 1 := by omega
  have mixed : Tryz.prog.follows Departure.mixedOrders = true := by kernel_rfl
  have HCP1 := Lib.hid hcp1
  clear hM1 hth2 hW1 hcp1 hth hout hdrop hdl hxl hsz hg hcm hBg hrow hy h hn
  go_enter Tryz.func59, Tryz.ntmps59
  go_wp2_with (simp only [hov])
  go_region_law_o (refine step_copy15 rfl _ _ 23 23 rfl (.slice (some ⟨g, (k + 1) * 3, none⟩) (n - k) (cap - (k + 1))) (.slice (some ⟨g, k * 3, none⟩) (n + 1 - k) (cap - k)) (by simp [Act.eval, Act.put]) (by simp [Act.eval, Act.put]) (HCP1.out _ (cap - (k + 1)) (cap - k)) ?_)
  go_wp2_with (at_builtin; refine wl_copy15 _ rfl _ _ 23 23 rfl _ _ rfl rfl (hcp2 _ _) ?_)
  go_ret
  exact ⟨rfl, HOUT.out, HBL.out⟩
theorem infoEn15 : (Tryz.prog.info? 41).map (fun i => (i.zero, i.size, i.bytes)) = some (some (entV ⟨#[]⟩ 0 ⟨#[]⟩), 3, 40) := by kernel_rfl
set_option maxRecDepth 100000 in
set_option maxHeartbeats 4000000 in
/-- There is no room. -/
theorem ins_full15 (l : List Ent) (e : Ent) (k n g cap M B N : Nat) (w : World) (h : OwnE w B (.slice (some ⟨g, 0, none⟩) l.length cap) l) (hB : B ≤ w.heap.size) (hN : w.heap.size = N) (hn : l.length = n) (hk : k < n) (hroom : cap < n + 1) (hn0 : n ≤ 1000) (hM : w.heap[M]? = some (.cells (enc e).toArray 41 (0, 0))) :
    Calls Tryz.prog 59 #[.slice (some ⟨g, 0, none⟩) n cap, .int .i64 (k : Int), .slice (some ⟨M, 0, none⟩) 1 1] w fun r w' => ∃ G, r = .returned (.slice (some ⟨N, 0, none⟩) (n + 1) G) ∧ OwnE w' B (.slice (some ⟨N, 0, none⟩) (n + 1) G) (l.take k ++ e :: l.drop k) ∧ Below B w w' := by
  obtain ⟨i0, hi0, hz0, hzs, hzb⟩ := info_parts infoEn15
  unfold OwnE at h
  rw [hn] at h
  have hnc : n ≤ cap := (own_lt14 h).2.2
  have hgN : g < N := by rw [← hN]; exact (own_lt14 h).2.1
  have hMN : M < N := by rw [← hN]; exact (Array.getElem?_eq_some_iff.1 hM).1
  obtain ⟨cur, hg, ht⟩ : ∃ cur, w.heap[g]? = some (.cells cur 41 (0, 0)) ∧ cur.toList.take (n * 3) = l.flatMap enc := by
    obtain ⟨_, ⟨h2, _⟩ | ⟨g', cap', cur, h2, hg, hb, hcap, hm, hsz, ht⟩⟩ := h
    · cases h2
    · cases h2
      exact ⟨cur, hb, ht⟩
  have hxl : (l.flatMap enc).length = n * 3 := by rw [enc_len15, hn]
  have htl : ((l.take k).flatMap enc).length = k * 3 := by rw [enc_len15, List.length_take]; omega
  have hdl : ((l.drop k).flatMap enc).length = (n - k) * 3 := by rw [enc_len15, List.length_drop, hn]
  have hall : ∀ j v, (l.flatMap enc)[j]? = some v → w.cell? ⟨g, j, none⟩ = some v := by
    intro j v hj
    have hj3 : j < n * 3 := by rw [← hxl]; exact (List.getElem?_eq_some_iff.1 hj).1
    rw [← ht, List.getElem?_take_of_lt hj3, Array.getElem?_toList] at hj
    rw [Lib.cell_of_heap hg]
    exact hj
  have hsplit : l.flatMap enc = (l.take k).flatMap enc ++ (l.drop k).flatMap enc := by rw [← List.flatMap_append, List.take_append_drop]
  have hdrop : ∀ j v, ((l.drop k).flatMap enc)[j]? = some v → w.cell? ⟨g, k * 3 + j, none⟩ = some v := by
    intro j v hj
    refine hall _ _ ?_
    rw [hsplit, List.getElem?_append_right (by omega), htl, Nat.add_sub_cancel_left]
    exact hj
  have htake : ∀ j v, ((l.take k).flatMap enc)[j]? = some v → w.cell? ⟨g, j, none⟩ = some v := by
    intro j v hj
    refine hall _ _ ?_
    rw [hsplit, List.getElem?_append_left (List.getElem?_eq_some_iff.1 hj).1]
    exact hj
  have hold : (Builtin.firstCells i0.size k (.slice (some ⟨g, 0, none⟩) k cap)).run Tryz.prog w.drew = .ok ((l.take k).flatMap enc).toArray w.drew := by
    rw [hzs]
    exact run_firstCells_some w.drew 3 k ⟨g, 0, none⟩ k cap _ htl (fun j v hj => by rw [Addr.add_lit, Nat.zero_add]; exact htake j v hj)
  have hik : k + (n + 1 - k) = n + 1 := by omega
  have hkk : (n : Int) + 1 - (k : Int) = ((n + 1 - k : Nat) : Int) := by omega
  have hrz : ∀ ty, (Builtin.append_ #[23, 3] ty #[.slice (some ⟨g, 0, none⟩) k cap, .int .i64 ((n : Int) + 1 - (k : Int))]).run Tryz.prog w =
      .ok (.slice (some ⟨N, 0, none⟩) (n + 1) (grownCap w (n + 1) cap 41)) (w.drew.alloc (.cells (((l.take k).flatMap enc).toArray ++ Builtin.zeroCells (entV ⟨#[]⟩ 0 ⟨#[]⟩).cells (n + 1 - k) ++ Builtin.zeroCells (entV ⟨#[]⟩ 0 ⟨#[]⟩).cells (grownCap w (n + 1) cap 41 - (n + 1))) 41)) := fun ty => by
    have h := Lib.run_append_grow_zeros w 23 3 ty 41 i0 _ .i64 .i64 Tryz.underlying23 Tryz.underlying3 hi0 hz0 (some ⟨g, 0, none⟩) k cap ((l.take k).flatMap enc) hold (n + 1 - k) (by omega) (by omega) (by omega) (by omega) (by rw [hzb]; omega) (by rw [hzb, hik]; exact growslice_fits hroom (by omega))
    rw [hik, hN] at h
    rw [hkk]
    exact h
  have hGn : n + 1 ≤ grownCap w (n + 1) cap 41 := grownCap_ge w _ _ _
  have hGm : grownCap w (n + 1) cap 41 ≤ maxLen := grownCap_le_maxLen w _ _ _ (by unfold maxLen; omega)
  obtain ⟨G, hG⟩ : ∃ G, grownCap w (n + 1) cap 41 = G := ⟨_, rfl⟩
  rw [hG] at hrz hGn hGm
  obtain ⟨ROW, hROW⟩ : ∃ ROW : Array Value, ((l.take k).flatMap enc).toArray ++ Builtin.zeroCells (entV ⟨#[]⟩ 0 ⟨#[]⟩).cells (n + 1 - k) ++ Builtin.zeroCells (entV ⟨#[]⟩ 0 ⟨#[]⟩).cells (G - (n + 1)) = ROW := ⟨_, rfl⟩
  rw [hROW] at hrz
  have hzc : (entV ⟨#[]⟩ 0 ⟨#[]⟩).cells.size = 3 := rfl
  have hRs : ROW.size = G * 3 := by
    rw [← hROW, Array.size_append, Array.size_append, size_zeroCells, size_zeroCells, hzc, List.size_toArray, htl]
    omega
  have hRt : ROW.toList.take (k * 3) = (l.take k).flatMap enc := by
    rw [← hROW, Array.toList_append, Array.toList_append, List.append_assoc, List.take_append_of_le_length (by show k * 3 ≤ ((l.take k).flatMap enc).length; omega), List.take_of_length_le (by show ((l.take k).flatMap enc).length ≤ k * 3; omega)]
  have hnew := heap_alloc_new w.drew (.cells ROW 41)
  have hdN : w.drew.heap.size = N := hN
  rw [hdN] at hnew
  obtain ⟨W1, hW1⟩ : ∃ W1, w.drew.alloc (.cells ROW 41) = W1 := ⟨_, rfl⟩
  rw [hW1] at hrz hnew
  have hb1 : Below B w W1 := by rw [← hW1]; exact (Below.refl B w).drew.alloc hB _
  have hBN : B ≤ N := by omega
  have hrow : W1.ownsRow B 41 3 (.slice (some ⟨N, 0, none⟩) (n + 1) G) (n + 1) (ROW.toList.take ((n + 1) * 3)) := by
    refine ⟨?_, .inr ⟨N, G, ROW, rfl, hBN, hnew, hGn, hGm, hRs, rfl⟩⟩
    rw [List.length_take, Array.length_toList, hRs]
    omega
  have hx := (owns_ins15 (k := k) e hrow hn (by omega) (by rw [List.take_take, Nat.min_eq_left (by omega)]; exact hRt)).2
  have hbN : Below N w W1 := by rw [← hW1]; exact (Below.refl N w).drew.alloc (Nat.le_of_eq hN.symm) _
  have hM1 : W1.heap[M]? = some (.cells (enc e).toArray 41 (0, 0)) := (hbN.block M hMN).trans hM
  have hdrop1 : ∀ j v, ((l.drop k).flatMap enc)[j]? = some v → W1.cell? ⟨g, k * 3 + j, none⟩ = some v := fun j v hj => (hbN.cell (p := ⟨g, k * 3 + j, none⟩) hgN).trans (hdrop j v hj)
  have hth1 : W1.there N (k * 3) 3 := owns_there hrow (by omega)
  have hcpA : ∀ (W : World), W.heap = W1.heap → ∀ ty dc, (Builtin.copy_ #[23, 23] ty #[.slice (some ⟨N, k * 3, none⟩) (n + 1 - k) dc, .slice (some ⟨M, 0, none⟩) 1 1]).run Tryz.prog W = .ok (goInt 1) (W.setCells N (k * 3) (enc e)) := fun W hW ty dc =>
    run_copy_any15 W _ _ ty 41 3 N (k * 3) (n + 1 - k) dc ⟨M, 0, none⟩ 1 1 1 (enc e) Tryz.underlying23 sizeEn15 (by simp only [Nat.min_def]; split <;> omega) rfl (fun j v hj => by
      rw [Addr.add_lit, Nat.zero_add, Lib.cell_of_heap (by rw [hW]; exact hM1)]
      simpa using hj) (fun j hj => by
      have h9 := hth1 j hj
      unfold World.cell? World.frozen? at h9 ⊢
      rw [hW]
      exact h9) (by intro v hv; exact enc_one15 (l := [e]) v (by rw [enc_single15]; exact hv))
  obtain ⟨W2, hW2⟩ : ∃ W2, W1.setCells N (k * 3) (enc e) = W2 := ⟨_, rfl⟩
  obtain ⟨xs2, hrow2⟩ : ∃ xs2, W2.ownsRow B 41 3 (.slice (some ⟨N, 0, none⟩) (n + 1) G) (n + 1) xs2 := by rw [← hW2]; exact ⟨_, owns_put hrow (k * 3) (enc e) (by show k * 3 + 3 ≤ (n + 1) * 3; omega)⟩
  have hth2 : W2.there N ((k + 1) * 3) ((n - k) * 3) := owns_there hrow2 (by omega)
  have hdrop2 : ∀ j v, ((l.drop k).flatMap enc)[j]? = some v → W2.cell? ⟨g, k * 3 + j, none⟩ = some v := fun j v hj => by
    rw [← hW2]
    exact (World.cell?_of_block (w := W1) (cells_other14 _ _ _ _ _ (by show g ≠ N; omega))).trans (hdrop1 j v hj)
  have hcpB : ∀ (W : World), W.heap = W2.heap → ∀ ty dc sc, (Builtin.copy_ #[23, 23] ty #[.slice (some ⟨N, (k + 1) * 3, none⟩) (n - k) dc, .slice (some ⟨g, k * 3, none⟩) (n - k) sc]).run Tryz.prog W = .ok (goInt ((n - k : Nat) : Int)) (W.setCells N ((k + 1) * 3) ((l.drop k).flatMap enc)) := fun W hW ty dc sc =>
    run_copy_any15 W _ _ ty 41 3 N ((k + 1) * 3) (n - k) dc ⟨g, k * 3, none⟩ (n - k) sc (n - k) _ Tryz.underlying23 sizeEn15 (Nat.min_self _) hdl.symm (fun j v hj => by
      have h9 := hdrop2 j v hj
      rw [Addr.add_lit]
      unfold World.cell? at h9 ⊢
      rw [hW]
      exact h9) (fun j hj => by
      have h9 := hth2 j (by rw [hdl] at hj; exact hj)
      unfold World.cell? World.frozen? at h9 ⊢
      rw [hW]
      exact h9) enc_one15
  rw [hW2] at hx
  have HX := Lib.hid hx
  have HBW := Lib.hid (show Below B w W2 by rw [← hW2]; exact below_cells14 _ _ _ _ hb1 hBN)
  have HBN := Lib.hid hBN
  have hw0 : IntKind.i64.wrap ((n : Int) + 1) = (n : Int) + 1 := IntWalk.i64_in _ (by omega)
  have hw1 : IntKind.i64.wrap ((k : Int) + 1) = (k : Int) + 1 := IntWalk.i64_in _ (by omega)
  have hw2 : IntKind.i64.wrap ((n : Int) + 1 - (k : Int)) = (n : Int) + 1 - (k : Int) := IntWalk.i64_in _ (by omega)
  have hz2 : ¬ ((k : Int) = (n : Int)) := by omega
  have hgt : (cap : Int) < (n : Int) + 1 := by omega
  have hb0 : (0 : Int) ≤ (k : Int) + 1 := by omega
  have hin : (k : Int) ≤ (n : Int) := by omega
  have hkc : (k : Int) ≤ (cap : Int) := by omega
  have hkn : (k : Int) ≤ (n : Int) + 1 := by omega
  have hGk : ¬ (G = k) := by omega
  have hGk1 : ¬ (G = k + 1) := by omega
  have hck : ¬ (cap = k) := by omega
  have hneg : ¬ ((n : Int) + 1 - (k : Int) < 0) := by omega
  have htn : ((k : Int) + 1).toNat = k + 1 := by omega
  have hG0 : (0 : Int) ≤ (G : Int) := by omega
  have mixed : Tryz.prog.follows Departure.mixedOrders = true := by kernel_rfl
  clear h hn hg ht hxl htl hdl hall hsplit hdrop htake hold hik hkk hROW hRs hRt hnew hdN hb1 hrow hx hM1 hdrop1 hth1 hbN hrow2 hth2 hdrop2 hG hBN hi0 hz0 hzs hzb hzc hB hM
  subst hN
  go_enter Tryz.func59, Tryz.ntmps59
  go_wp2_with (first
    | (at_builtin; refine Lib.wpList_append_run _ rfl _ _ _ _ rfl _ _ rfl rfl _ _ (hrz _) ?_)
    | (at_builtin; refine wl_copy15 _ rfl _ _ 23 23 rfl _ _ rfl rfl (hcpA _ rfl _ _) ?_)
    | (at_builtin; refine wl_copy15 _ rfl _ _ 23 23 rfl _ _ rfl rfl (hcpB _ rfl _ _ _) ?_))
  go_region_law_o (refine step_copy15 rfl _ _ 23 23 rfl (.slice (some ⟨w.heap.size, (k + 1) * 3, none⟩) (n - k) (G - (k + 1))) (.slice (some ⟨g, k * 3, none⟩) (n - k) (cap - k)) (by simp [Act.eval, Act.put]) (by simp [Act.eval, Act.put]) (hcpB W2.drew rfl _ (G - (k + 1)) (cap - k)) ?_)
  go_wp2
  go_ret
  exact ⟨G, rfl, HX.out _ rfl, below_cells14 _ _ _ _ HBW.out.drew HBN.out⟩
/-- An entry put ahead of the k-th. -/
theorem insert15 (l : List Ent) (e : Ent) (k M B : Nat) (v : Value) (w : World) (h : OwnE w B v l) (hB : B ≤ w.heap.size) (hk : k < l.length) (hn0 : l.length ≤ 1000) (hM : w.heap[M]? = some (.cells (enc e).toArray 41 (0, 0))) (hv : v.ownBlock ≠ some M) :
    Calls Tryz.prog 59 #[v, .int .i64 (k : Int), .slice (some ⟨M, 0, none⟩) 1 1] w fun r w' => ∃ v', r = .returned v' ∧ OwnE w' B v' (l.take k ++ e :: l.drop k) ∧ Below B w w' := by
  obtain ⟨g, cap, rfl⟩ : ∃ g cap, v = .slice (some ⟨g, 0, none⟩) l.length cap := by
    obtain ⟨_, ⟨_, h0⟩ | ⟨g, cap, cur, h2, _⟩⟩ := h
    · omega
    · exact ⟨g, cap, h2⟩
  have hMg : M ≠ g := fun e9 => hv (by rw [e9]; rfl)
  by_cases hr : l.length + 1 ≤ cap
  · refine (ins_room15 l e k l.length g cap M B w h rfl hk hr hn0 hMg hM).mono ?_
    rintro r w' ⟨rfl, h1, h2⟩
    exact ⟨_, rfl, h1, h2⟩
  · refine (ins_full15 l e k l.length g cap M B w.heap.size w h hB rfl rfl hk (by omega) hn0 hM).mono ?_
    rintro r w' ⟨G, rfl, h1, h2⟩
    exact ⟨_, rfl, h1, h2⟩
end Go.Proofs.YtlnjbadbpddlmaaGreatDoor

namespace Go.Proofs.YtlnjbadbpddlmaaGreatDoor
open Go.RowKit

theorem enAt_blk15 {w : World} {N : Nat} {e : Ent} (h : w.heap[N]? = some (.cells (enc e).toArray 41 (0, 0))) : EnAt w N e.1 e.2.1 e.2.2 := h
set_option maxRecDepth 10000 in
set_option maxHeartbeats 1000000 in
theorem not_less15 (x e : Ent) (N : Nat) (W : World) (h : W.heap[N]? = some (.cells (enc e).toArray 41 (0, 0))) :
    Calls Tryz.prog 58 (#[enV x] ++ #[.pointer (some ⟨N, 0, none⟩)]) W fun r w' => r = .returned (.bool (!lt8 (pl x) (pl e))) ∧ Below W.heap.size W w' := by
  have hb0 : Below W.heap.size W (W.alloc (.cells #[.string x.1, .int .i64 x.2.1, .string x.2.2] 41)) := (Below.refl _ _).alloc (Nat.le_refl _) _
  have HB0 := Lib.hid hb0
  have HE := Lib.hid ((enAt_blk15 h).below hb0)
  have HL := Lib.hid (fun w' => less8 x.1 e.1 x.2.2 e.2.2 x.2.1 e.2.1 w')
  obtain ⟨b, hb⟩ : ∃ b, lt8 (pl x) (pl e) = b := ⟨_, rfl⟩
  rw [hb]
  rw [show Op.bytesLess x.1.data.toList e.1.data.toList = b from hb] at HL
  have c0 := HE.out.c0
  have c1 := HE.out.c1
  have c2 := HE.out.c2
  clear h hb hb0
  go_enter Tryz.func58, Tryz.ntmps58
  go_wp2_with fail
  refine (HL.out _).mono ?_
  rintro r w1 ⟨rfl, hb⟩
  have HB := Lib.hid (HB0.out.trans (hb.mono HB0.out.size))
  clear hb
  go_wp2
  go_ret
  exact ⟨rfl, HB.out⟩
/-- All of them are less. -/
def less15 (e : Ent) (l : List Ent) : Prop := ∀ y ∈ l, lt8 (pl y) (pl e) = true
set_option maxRecDepth 10000 in
set_option maxHeartbeats 1000000 in
theorem at15 (t : List Ent) (a : Option Addr) (cap : Nat) (e : Ent) (N : Nat) (w : World) (h : Ents w a cap t) (hs : t.length ≤ 1000) (hN : w.heap[N]? = some (.cells (enc e).toArray 41 (0, 0))) :
    Calls Tryz.prog 57 #[.slice a t.length cap, .func (.func 58) #[] #[.pointer (some ⟨N, 0, none⟩)]] w fun r w' => ∃ i : Int, r = .returned (.int .i64 i) ∧ Below w.heap.size w w' ∧ ((i = -1 ∧ less15 e t) ∨ ∃ (k : Nat) (x : Ent), i = (k : Int) ∧ t[k]? = some x ∧ lt8 (pl x) (pl e) = false ∧ less15 e (t.take k)) := by
  have HE := Lib.hid h
  have hlen := hs
  have hlt9 : N < w.heap.size := (Array.getElem?_eq_some_iff.1 hN).1
  have HC : Hid (∀ x ∈ t, ∀ W, Below w.heap.size w W → _) := fun x _ W hW => not_less15 x e N W ((hW.block N hlt9).trans hN)
  clear h hs hN hlt9
  go_enter Tryz.func57, Tryz.ntmps57
  go_wp2
  go_loopg [8] t.length (fun g i wx => ∃ k : Nat, i = .int .i64 (k : Int) ∧ k + g = t.length ∧ Hid (Below w.heap.size w wx) ∧ Hid (less15 e (t.take k)))
  case atStart => exact ⟨0, rfl, by omega, Below.refl _ _, by rw [List.take_zero]; intro y hy; cases hy⟩
  case round =>
    obtain ⟨k, rfl, hk, HB, HN⟩ := hrel
    have hw : IntKind.i64.wrap ((k : Int) + 1) = (k : Int) + 1 := IntWalk.i64_in _ (by omega)
    by_cases hlt : k < t.length
    · have hlt' : (k : Int) < (t.length : Int) := by omega
      obtain ⟨b, off, rfl, _, hc⟩ := Ents.at HE.out HB.out hlt
      have HCX := Lib.hid (HC.out t[k] (List.getElem_mem hlt) wr HB.out)
      have HT := Lib.hid (take_get t k hlt)
      have HX := Lib.hid (List.getElem?_eq_getElem hlt)
      obtain ⟨x, hx⟩ : ∃ x, t[k] = x := ⟨_, rfl⟩
      rw [hx] at hc HCX HT HX
      have c0 := hc.c0
      have c1 := hc.c1
      have c2 := hc.c2
      clear hc hx
      cases hu : lt8 (pl x) (pl e) with
      | false =>
        rw [hu] at HCX
        have HV := Lib.hid hu
        clear hu
        go_wp2_with fail
        refine (HCX.out).mono ?_
        rintro r w1 ⟨rfl, hb⟩
        have HB1 := Lib.hid (HB.out.trans (hb.mono HB.out.size))
        clear hb
        go_wp2
        go_ret
        exact ⟨_, rfl, HB1.out, .inr ⟨k, x, rfl, HX.out, HV.out, HN.out⟩⟩
      | true =>
        rw [hu] at HCX
        have HN1 := Lib.hid (show less15 e (t.take (k + 1)) by
          rw [HT.out]
          intro y hy
          rcases List.mem_append.1 hy with hy | hy
          · exact HN.out y hy
          · rw [List.mem_singleton.1 hy]; exact hu)
        clear hu
        go_wp2_with fail
        refine (HCX.out).mono ?_
        rintro r w1 ⟨rfl, hb⟩
        have HB1 := Lib.hid (HB.out.trans (hb.mono HB.out.size))
        clear hb
        go_wp2
        go_roundg (gk - 1)
        case measure => omega
        case rel => exact ⟨k + 1, by simp, by omega, HB1.out, HN1.out⟩
    · have hlt' : ¬ (k : Int) < (t.length : Int) := by omega
      have HV := Lib.hid (show less15 e t by
        have := HN.out
        rwa [List.take_of_length_le (by omega)] at this)
      go_wp2
      go_ret
      exact ⟨_, rfl, HB.out, .inl ⟨rfl, HV.out⟩⟩
set_option maxRecDepth 10000 in
set_option maxHeartbeats 4000000 in
theorem placed15 (l : List Ent) (v : Value) (B : Nat) (e : Ent) (w : World) (h : OwnE w B v l) (hB : B ≤ w.heap.size) (hA : Asc l) (hd : ∀ y ∈ l, pl y ≠ pl e) (hl : l.length ≤ 999) :
    Calls Tryz.prog 44 #[v, enV e] w fun r w' => ∃ v', r = .returned v' ∧ OwnE w' B v' (wth l e) ∧ Below B w w' := by
  obtain ⟨a, cap, rfl, hE⟩ := ents_of_own h
  obtain ⟨W, hW⟩ : ∃ W, w.alloc (.cells #[.string e.1, .int .i64 e.2.1, .string e.2.2] 41) = W := ⟨_, rfl⟩
  obtain ⟨N, hN⟩ : ∃ N, w.heap.size = N := ⟨_, rfl⟩
  have hb0 : Below w.heap.size w W := by rw [← hW]; exact (Below.refl _ _).alloc (Nat.le_refl _) _
  have hbk : W.heap[N]? = some (.cells (enc e).toArray 41 (0, 0)) := by rw [← hW, ← hN]; exact heap_alloc_new _ _
  have hNW : N < W.heap.size := (Array.getElem?_eq_some_iff.1 hbk).1
  have HI := Lib.hid (at15 l a cap e N W (RowN.below hE hb0) (by omega) hbk)
  have HO := Lib.hid (h.below hb0)
  have HB0 := Lib.hid (hb0.mono hB)
  have HBW := Lib.hid (Nat.le_trans hB hb0.size)
  have HBK := Lib.hid hbk
  have HNW := Lib.hid hNW
  have HNB := Lib.hid (show B ≤ N by rw [← hN]; exact hB)
  have HL := Lib.hid hl
  have HOB := Lib.hid (show ∀ k, (Value.slice a l.length cap).ownBlock = some k → B ≤ k ∧ k < N from fun k hk => by rw [← hN]; exact ownE_blk h k hk)
  have HEX : Hid (∀ (k : Nat) (x : Ent), l[k]? = some x → lt8 (pl x) (pl e) = false → less15 e (l.take k) → wth l e = l.take k ++ e :: l.drop k) := fun k x hx hn hb => wth_at15 hA hx hb hn hd
  have HEE : Hid (less15 e l → wth l e = l ++ [e]) := fun hb => wth_end15 hb
  obtain ⟨R, hR⟩ : ∃ R, wth l e = R := ⟨_, rfl⟩
  rw [hR] at HEX HEE ⊢
  have hmf : ∀ (fn : Fn) (first cap : Array Value) (w : World), (Instr.makeFunc fn first cap).run Tryz.prog w = .ok (.func fn first cap) w := fun _ _ _ _ => rfl
  clear h hE hB hA hd hb0 hbk hNW hl hR
  go_enter Tryz.func44, Tryz.ntmps44
  go_wp2_with fail
  refine (HI.out).mono ?_
  rintro r w1 ⟨i, rfl, hb1, hr⟩
  have HB1 := Lib.hid (hb1.mono HBW.out)
  have HO1 := Lib.hid (HO.out.below hb1)
  have HBK1 := Lib.hid ((hb1.block N HNW.out).trans HBK.out)
  have HS1 := Lib.hid hb1.size
  have c0 := (enAt_blk15 HBK1.out).c0
  have c1 := (enAt_blk15 HBK1.out).c1
  have c2 := (enAt_blk15 HBK1.out).c2
  rcases hr with ⟨rfl, hr⟩ | ⟨k, x, rfl, hx, hn, hr⟩
  · have HV := Lib.hid (HEE.out hr)
    have hb2 : Below w1.heap.size w1 (w1.alloc (.cells #[.string e.1, .int .i64 e.2.1, .string e.2.2] 41)) := (Below.refl _ _).alloc (Nat.le_refl _) _
    have HO2 := Lib.hid (HO1.out.below hb2)
    have HE2 := Lib.hid (enAt_new w1 e.1 e.2.1 e.2.2)
    have HB2 := Lib.hid (HB1.out.trans (hb2.mono (Nat.le_trans HBW.out HS1.out)))
    clear hr hb1 hb2
    go_wp2_with (at_builtin; refine Stopped.go ?_)
    unfold Stopped
    refine wl_putE (by rfl) _ _ (by rfl) B _ l e (by rfl) HO2.out (Nat.le_trans HBW.out HB2.out.size) _ (by rfl) HE2.out (Nat.le_trans HL.out (by decide)) ?_
    intro v3 w3 ho hg
    have HB3 := Lib.hid (HB2.out.grown hg (Nat.le_trans HBW.out HB2.out.size) (fun k hk => (HOB.out k hk).1))
    have HO3 := Lib.hid ho
    clear ho hg
    go_wp2
    go_ret
    exact ⟨_, rfl, by rw [HV.out]; exact HO3.out, HB0.out.trans HB3.out⟩
  · have HV := Lib.hid (HEX.out k x hx hn hr)
    have HK := Lib.hid (List.getElem?_eq_some_iff.1 hx).1
    have hk0 : ¬ ((k : Int) < 0) := by omega
    have hb2 : Below w1.heap.size w1 (w1.alloc (.cells #[.string e.1, .int .i64 e.2.1, .string e.2.2] 41)) := (Below.refl _ _).alloc (Nat.le_refl _) _
    have HO2 := Lib.hid (HO1.out.below hb2)
    have HE2 := Lib.hid (heap_alloc_new w1 (.cells (enc e).toArray 41))
    have HB2 := Lib.hid (HB1.out.trans (hb2.mono (Nat.le_trans HBW.out HS1.out)))
    have HNE : Hid ((Value.slice a l.length cap).ownBlock ≠ some w1.heap.size) := fun h9 => by
      have h1 := (HOB.out _ h9).2
      have := HS1.out
      have := HNW.out
      omega
    clear hr hx hn hb1 hb2
    go_wp2_with fail
    refine (insert15 l e k w1.heap.size B _ _ HO2.out (Nat.le_trans HBW.out HB2.out.size) HK.out (Nat.le_trans HL.out (by decide)) HE2.out HNE.out).mono ?_
    rintro r w2 ⟨v3, rfl, ho, hb3⟩
    have HO3 := Lib.hid ho
    have HB3 := Lib.hid (HB2.out.trans hb3)
    clear ho hb3
    go_wp2
    go_ret
    exact ⟨_, rfl, by rw [HV.out]; exact HO3.out, HB0.out.trans HB3.out⟩
end Go.Proofs.YtlnjbadbpddlmaaGreatDoor

namespace Go.Proofs.YtlnjbadbpddlmaaGreatDoor
open Go.RowKit

theorem mid_get15 {f : Ent → Ent} {l : List Ent} {j : Nat} {x : Ent} (hx : l[j]? = some x) : ((l.take j).map f ++ l.drop j)[j]? = some x ∧ ((l.take j).map f ++ l.drop j).set j (f x) = (l.take (j + 1)).map f ++ l.drop (j + 1) ∧ (f x = x → (l.take (j + 1)).map f ++ l.drop (j + 1) = (l.take j).map f ++ l.drop j) := by
  obtain ⟨hj, e⟩ := List.getElem?_eq_some_iff.1 hx
  have hlen : ((l.take j).map f).length = j := by rw [List.length_map, List.length_take]; omega
  have hd : l.drop j = x :: l.drop (j + 1) := by rw [List.drop_eq_getElem_cons hj, e]
  have ht : (l.take (j + 1)).map f = (l.take j).map f ++ [f x] := by rw [List.take_add_one, hx, List.map_append]; rfl
  refine ⟨?_, ?_, fun h => ?_⟩
  · rw [List.getElem?_append_right (by omega), hlen, Nat.sub_self, hd]
    rfl
  · rw [ht, hd, List.set_append, if_neg (by omega), hlen, Nat.sub_self, List.set_cons_zero]
    simp
  · rw [ht, h, hd]
    simp
theorem is_snoc15 (e x : Ent) (l : List Ent) : is15 e (l ++ [x]) = (is15 e l || decide (pl x = pl e)) := by
  unfold is15
  simp
set_option maxRecDepth 10000 in
set_option maxHeartbeats 8000000 in
theorem opened15 (l : List Ent) (v : Value) (B : Nat) (e : Ent) (w : World) (h : OwnE w B v l) (hB : B ≤ w.heap.size) (hA : Asc l) (hl : l.length ≤ 999) :
    Calls Tryz.prog 41 #[v, enV e] w fun r w' => ∃ v', r = .returned v' ∧ OwnE w' B v' (if is15 e l then l.map (rep15 e) else wth l e) ∧ Below B w w' := by
  obtain ⟨a, cap, rfl, hE⟩ := ents_of_own h
  obtain ⟨W, hW⟩ : ∃ W, w.alloc (.cells #[.string e.1, .int .i64 e.2.1, .string e.2.2] 41) = W := ⟨_, rfl⟩
  obtain ⟨N, hN⟩ : ∃ N, w.heap.size = N := ⟨_, rfl⟩
  obtain ⟨n, hn⟩ : ∃ n, l.length = n := ⟨_, rfl⟩
  have hb0 : Below w.heap.size w W := by rw [← hW]; exact (Below.refl _ _).alloc (Nat.le_refl _) _
  have hbk : EnAt W N e.1 e.2.1 e.2.2 := by rw [← hW, ← hN]; exact enAt_new _ _ _ _
  have HB0 := Lib.hid (hb0.mono hB)
  have HBW := Lib.hid (Nat.le_trans hB hb0.size)
  have HBK := Lib.hid hbk
  have HOB := Lib.hid (show ∀ k, (Value.slice a n cap).ownBlock = some k → B ≤ k ∧ k < N from fun k hk => by rw [← hN]; rw [← hn] at hk; exact ownE_blk h k hk)
  have HO := Lib.hid (show W.ownsRow B 41 3 (.slice a n cap) n (l.flatMap enc) by
    have h9 := h.below hb0
    unfold OwnE at h9
    rw [hn] at h9
    exact h9)
  have HN := Lib.hid hn
  have HL := Lib.hid (show n ≤ 999 by omega)
  have HPL : Hid (∀ (W' : World), B ≤ W'.heap.size → OwnE W' B (.slice a n cap) l → is15 e l = false → Calls Tryz.prog 44 #[.slice a n cap, enV e] W' fun r w' => ∃ v', r = .returned v' ∧ OwnE w' B v' (wth l e) ∧ Below B W' w') := fun W' hB' ho hi => placed15 l _ B e W' ho hB' hA (is_none15 hi).1 hl
  obtain ⟨R, hR⟩ : ∃ R, (if is15 e l then l.map (rep15 e) else wth l e) = R := ⟨_, rfl⟩
  have HR := Lib.hid hR
  rw [hR, hn]
  clear h hE hB hA hl hb0 hbk hR
  go_enter Tryz.func41, Tryz.ntmps41
  go_wp2
  go_loopg [5, 10] n (fun gg v5 v10 wx => ∃ (j : Nat) (b : Bool) (M : List Ent), v5 = .bool b ∧ v10 = .int .i64 (j : Int) ∧ j + gg = n ∧ Hid (b = is15 e (l.take j)) ∧ Hid (M = (l.take j).map (rep15 e) ++ l.drop j) ∧ Hid (Below B W wx) ∧ Hid (EnAt wx N e.1 e.2.1 e.2.2) ∧ Hid (wx.ownsRow B 41 3 (.slice a n cap) n (M.flatMap enc)))
  case atStart => exact ⟨0, false, l, rfl, rfl, by omega, rfl, by simp [Hid], Below.refl _ _, HBK.out, HO.out⟩
  case round =>
    obtain ⟨j, b, M, rfl, rfl, hj, HI, HM, HF, HQ, HW⟩ := hrel
    by_cases hlt : j < n
    · have hlt' : (j : Int) < (n : Int) := by omega
      have hw1 : IntKind.i64.wrap ((j : Int) + 1) = (j : Int) + 1 := IntWalk.i64_in _ (by have := HL.out; omega)
      obtain ⟨g, rfl⟩ : ∃ g, a = some ⟨g, 0, none⟩ := own_some14 HW.out (by omega)
      obtain ⟨x, hx⟩ : ∃ x, l[j]? = some x := ⟨_, List.getElem?_eq_getElem (by have := HN.out; omega)⟩
      obtain ⟨m1, m2, m3⟩ := mid_get15 (f := rep15 e) hx
      have HT := Lib.hid (show l.take (j + 1) = l.take j ++ [x] by rw [List.take_add_one, hx]; rfl)
      have HMJ := Lib.hid (show M[j]? = some x by rw [HM.out]; exact m1)
      have HMS := Lib.hid (show M.set j (rep15 e x) = (l.take (j + 1)).map (rep15 e) ++ l.drop (j + 1) by rw [HM.out]; exact m2)
      have HMK : Hid (rep15 e x = x → M = (l.take (j + 1)).map (rep15 e) ++ l.drop (j + 1)) := fun h9 => by rw [HM.out]; exact (m3 h9).symm
      have c0 := (own_cell14 HW.out HMJ.out hlt (i := 0) rfl).1
      have c1 := (own_cell14 HW.out HMJ.out hlt (i := 1) rfl).1
      have c2 := (own_cell14 HW.out HMJ.out hlt (i := 2) rfl).1
      rw [Nat.add_zero] at c0
      obtain ⟨U, hU⟩ : ∃ U, wr.alloc (.cells #[.string x.1, .int .i64 x.2.1, .string x.2.2] 41) = U := ⟨_, rfl⟩
      obtain ⟨K, hK⟩ : ∃ K, wr.heap.size = K := ⟨_, rfl⟩
      have hbu : Below wr.heap.size wr U := by rw [← hU]; exact (Below.refl _ _).alloc (Nat.le_refl _) _
      have HFU := Lib.hid (HF.out.trans (hbu.mono (Nat.le_trans HBW.out HF.out.size)))
      have HXU := Lib.hid (show EnAt U K x.1 x.2.1 x.2.2 by rw [← hU, ← hK]; exact enAt_new _ _ _ _)
      have HEU := Lib.hid (HQ.out.below hbu)
      have HWU := Lib.hid (own_below14 HW.out (hbu.block g (own_lt14 HW.out).2.1))
      have HGN := Lib.hid (HOB.out g rfl)
      have x0 := HXU.out.c0
      have x1 := HXU.out.c1
      have x2 := HXU.out.c2
      have e0 := HEU.out.c0
      clear hx m1 m2 m3 hbu
      by_cases hp : pl x = pl e
      · have hp1 : (x.1.toList == e.1.toList) = true := by rw [Lib.toList_data, Lib.toList_data, beq_iff_eq]; exact hp
        have hp2 : (x.1.toList != e.1.toList) = false := by rw [bne, hp1]; rfl
        have HI1 := Lib.hid (show true = is15 e (l.take (j + 1)) by rw [HT.out, is_snoc15, decide_eq_true hp, Bool.or_true])
        by_cases hk : x.2.1 = 1 ∨ x.2.1 = 3
        · have HRP := Lib.hid (show rep15 e x = oE e.1 by unfold rep15; rw [if_pos ⟨hp, hk⟩])
          have d0 := (own_cell14 HWU.out HMJ.out hlt (i := 0) rfl).1
          have d1 := (own_cell14 HWU.out HMJ.out hlt (i := 1) rfl).1
          have d2 := (own_cell14 HWU.out HMJ.out hlt (i := 2) rfl).1
          have f0 := (own_cell14 HWU.out HMJ.out hlt (i := 0) rfl).2
          have f1 := (own_cell14 HWU.out HMJ.out hlt (i := 1) rfl).2
          have f2 := (own_cell14 HWU.out HMJ.out hlt (i := 2) rfl).2
          rw [Nat.add_zero] at d0 f0
          have HFIN : Hid (∀ Z, Z = U.setCells g (j * 3) (enc (oE e.1)) → Below B W Z ∧ EnAt Z N e.1 e.2.1 e.2.2 ∧ Z.ownsRow B 41 3 (.slice (some ⟨g, 0, none⟩) n cap) n ((M.set j (oE e.1)).flatMap enc)) := fun Z hZ => by
            subst hZ
            refine ⟨below_cells14 _ _ _ _ HFU.out HGN.out.1, HEU.out.of (cells_other14 _ _ _ _ _ (by have := HGN.out.2; omega)), ?_⟩
            rw [flat_set M (enc_len14 M) j (oE e.1) (List.getElem?_eq_some_iff.1 HMJ.out).1 rfl]
            exact owns_put HWU.out (j * 3) (enc (oE e.1)) (by show j * 3 + 3 ≤ n * 3; omega)
          by_cases h1 : x.2.1 = 1
          · have hk1 : (x.2.1 == 1) = true := by simp [h1]
            clear hk h1 hp
            go_wp2
            go_roundg (gk - 1)
            case measure => omega
            case rel =>
              obtain ⟨z1, z2, z3⟩ := HFIN.out _ rfl
              exact ⟨j + 1, true, M.set j (oE e.1), rfl, by simp, by omega, HI1.out, by rw [← HRP.out]; exact HMS.out, z1, z2, z3⟩
          · have hk1 : (x.2.1 == 1) = false := by simp [h1]
            have hk3 : (x.2.1 == 3) = true := by simp; omega
            clear hk h1 hp
            go_wp2
            go_roundg (gk - 1)
            case measure => omega
            case rel =>
              obtain ⟨z1, z2, z3⟩ := HFIN.out _ rfl
              exact ⟨j + 1, true, M.set j (oE e.1), rfl, by simp, by omega, HI1.out, by rw [← HRP.out]; exact HMS.out, z1, z2, z3⟩
        · have HRP := Lib.hid (show rep15 e x = x by unfold rep15; rw [if_neg (fun h9 => hk h9.2)])
          have hk1 : (x.2.1 == 1) = false := by simp; omega
          have hk3 : (x.2.1 == 3) = false := by simp; omega
          clear hk hp
          go_wp2
          go_roundg (gk - 1)
          case measure => omega
          case rel => exact ⟨j + 1, true, M, rfl, by simp, by omega, HI1.out, HMK.out HRP.out, HFU.out, HEU.out, HWU.out⟩
      · have hp1 : (x.1.toList == e.1.toList) = false := by rw [Lib.toList_data, Lib.toList_data, beq_eq_false_iff_ne]; exact hp
        have hp2 : (x.1.toList != e.1.toList) = true := by rw [bne, hp1]; rfl
        have HI1 := Lib.hid (show b = is15 e (l.take (j + 1)) by rw [HT.out, is_snoc15, decide_eq_false hp, Bool.or_false]; exact HI.out)
        have HRP := Lib.hid (show rep15 e x = x by unfold rep15; rw [if_neg (fun h9 => hp h9.1)])
        clear hp
        go_wp2
        go_roundg (gk - 1)
        case measure => omega
        case rel => exact ⟨j + 1, b, M, rfl, by simp, by omega, HI1.out, HMK.out HRP.out, HFU.out, HEU.out, HWU.out⟩
    · have hlt' : ¬ (j : Int) < (n : Int) := by omega
      have HIA := Lib.hid (show b = is15 e l by have := HI.out; rwa [List.take_of_length_le (by have := HN.out; omega)] at this)
      have HMA := Lib.hid (show M = l.map (rep15 e) by
        have := HM.out
        rw [List.take_of_length_le (by have := HN.out; omega), List.drop_of_length_le (by have := HN.out; omega), List.append_nil] at this
        exact this)
      have HSZ := Lib.hid (Nat.le_trans HBW.out HF.out.size)
      have HWM := Lib.hid (show OwnE wr B (.slice a n cap) M by
        unfold OwnE
        rw [show M.length = n by rw [HMA.out, List.length_map]; exact HN.out]
        exact HW.out)
      have e0 := HQ.out.c0
      have e1 := HQ.out.c1
      have e2 := HQ.out.c2
      cases b with
      | true =>
        have HRR := Lib.hid (show M = R by rw [HMA.out, ← HR.out, if_pos HIA.out.symm])
        go_wp2
        go_ret
        exact ⟨_, rfl, by rw [← HRR.out]; exact HWM.out, HB0.out.trans HF.out⟩
      | false =>
        have HRR := Lib.hid (show wth l e = R by rw [← HR.out, if_neg (by rw [← HIA.out]; simp)])
        have HML := Lib.hid (show M = l by rw [HMA.out, rep_same15 (is_none15 HIA.out.symm).1])
        go_wp2_with fail
        refine (HPL.out wr HSZ.out (by rw [← HML.out]; exact HWM.out) HIA.out.symm).mono ?_
        rintro r w3 ⟨v3, rfl, ho, hb3⟩
        have HO3 := Lib.hid ho
        have HB3 := Lib.hid (HB0.out.trans (HF.out.trans hb3))
        clear ho hb3
        go_wp2
        go_ret
        exact ⟨_, rfl, by rw [← HRR.out]; exact HO3.out, HB3.out⟩
end Go.Proofs.YtlnjbadbpddlmaaGreatDoor

namespace Go.Proofs.YtlnjbadbpddlmaaGreatDoor
open Go.RowKit

/-- Entries at the end of a slice that a call made itself. -/
theorem wl_catE {w : World} {ops : Array Oper} {rest : List Oper} {o : Oper} {a : Act} {Q : Exit → Act → World → Prop} (hgd : o.guard = none) (s x : Operand)
    (ho : o.op = .call { callee := .builtin .append, args := #[s, x], argTypes := #[23, 23] }) (B : Nat) (v : Value) (l m : List Ent) (hs : a.eval s = v) (hown : OwnE w B v l) (hB : B ≤ w.heap.size)
    (aS : Option Addr) (c : Nat) (hx : a.eval x = .slice aS m.length c) (hM : Ents w aS c m) (hl : l.length + m.length ≤ 10000)
    (h : ∀ v' w', OwnE w' B v' (l ++ m) → w.grownBy w' v.ownBlock → wpList Tryz.prog ops Q rest (a.put o.dst v') w') : wpList Tryz.prog ops Q (o :: rest) a w := by
  obtain ⟨ie, hie, hz, hsz, hby⟩ := info_parts infoEn
  have hC : ∀ x ∈ m, (enc x).length = 3 := fun _ _ => rfl
  obtain ⟨h1, h2⟩ := RowN.src hM (by decide) hC
  refine wl_append_any hgd s x 23 ho B 41 ie _ 3 40 Tryz.underlying23 hie hz hsz hby rfl (by decide) v l.length _ hs hown aS m.length c (m.flatMap enc) hx (flat_len m hC) h1 h2 ?_ (by unfold maxLen; omega) (by omega) hB ?_
  · intro u hu
    obtain ⟨y, _, hu⟩ := List.mem_flatMap.1 hu
    rcases List.mem_cons.1 hu with rfl | hu
    · rfl
    rcases List.mem_cons.1 hu with rfl | hu
    · rfl
    rcases List.mem_cons.1 hu with rfl | hu
    · rfl
    cases hu
  · intro v' w' h1 h2
    refine h v' w' ?_ h2
    unfold OwnE
    rw [List.length_append, List.flatMap_append]
    exact h1
theorem flatten_take {S : List (List Ent)} {k : Nat} (h : k < S.length) : (S.take (k + 1)).flatten = (S.take k).flatten ++ S[k] := by
  rw [take_get S k h, List.flatten_append]
  simp
theorem flatten_take_le (S : List (List Ent)) (k : Nat) : (S.take k).flatten.length ≤ S.flatten.length := by
  conv => rhs; rw [← List.take_append_drop k S, List.flatten_append, List.length_append]
  omega
end Go.Proofs.YtlnjbadbpddlmaaGreatDoor

namespace Go.Proofs.YtlnjbadbpddlmaaGreatDoor
open Go.RowKit

set_option maxRecDepth 10000 in
set_option maxHeartbeats 1000000 in
theorem clone15 (t : List Ent) (a : Option Addr) (cap : Nat) (w : World) (h : Ents w a cap t) (hl : t.length ≤ 1000) :
    Calls Tryz.prog 15 #[.slice a t.length cap] w fun e w' => ∃ v, e = .returned v ∧ OwnE w' w.heap.size v t ∧ Below w.heap.size w w' := by
  have HE := Lib.hid h
  have HL := Lib.hid (show ([] : List Ent).length + t.length ≤ 10000 by simp; omega)
  have hnil := fun w => Lib.run_eql_slice_nil (P := Tryz.prog) w 23 41 a t.length cap 0 0 Tryz.underlying23
  cases a with
  | none =>
    have h0 : t = [] := by
      rcases h.2 with h | ⟨b, off, h9, _⟩
      · exact h
      · cases h9
    subst h0
    have hnil := fun w => Lib.run_eql_slice_nil (P := Tryz.prog) w 23 41 none 0 cap 0 0 Tryz.underlying23
    simp only [Option.isNone_none] at hnil
    show Calls _ _ #[.slice none 0 cap] w _
    clear h hl
    go_enter Tryz.func15, Tryz.ntmps15
    go_wp2
    go_ret
    exact ⟨_, rfl, ownE_nil _ _, Below.refl _ _⟩
  | some ad =>
    simp only [Option.isNone_some] at hnil
    clear h hl
    go_enter Tryz.func15, Tryz.ntmps15
    go_wp2_with (at_builtin; refine Stopped.go ?_)
    unfold Stopped
    have hb0 : Below w.heap.size w (w.alloc (.cells #[] 41)) := (Below.refl _ _).alloc (Nat.le_refl _) _
    refine wl_catE (by rfl) _ _ (by rfl) w.heap.size _ [] t (by rfl) (ownsE_new w w.heap.size w.heap.size rfl (Nat.le_refl _) 41 3) hb0.size (some ad) cap (by rfl) (RowN.below HE.out hb0) HL.out ?_
    intro v w1 ho hg
    have HB := Lib.hid (hb0.grown hg hb0.size (fun k hk => by
      obtain rfl : w.heap.size = k := by simpa [Value.ownBlock] using hk
      exact Nat.le_refl _))
    have HO := Lib.hid (show OwnE w1 w.heap.size v t from ho)
    clear ho hg hb0
    go_wp2
    go_ret
    exact ⟨_, rfl, HO.out, HB.out⟩
/-- What goes with a path. -/
def go15 (p : ByteArray) (x : Ent) : Bool := decide (pl x = p.data.toList) || und (pl x) p.data.toList
theorem filter_go15 (l : List Ent) (p : ByteArray) : l.filter (fun x => !go15 p x) = rst l p.data.toList := by
  unfold rst go15
  refine List.filter_congr fun x _ => ?_
  cases und (pl x) p.data.toList <;> by_cases h : pl x = p.data.toList <;> simp [h]
set_option maxRecDepth 10000 in
set_option maxHeartbeats 1000000 in
theorem goes15 (x : Ent) (p : ByteArray) (bp : Nat) (W : World) (cp : W.cell? ⟨bp, 0, none⟩ = some (.string p)) (hx : x.1.size ≤ 100000) (hp : p.size ≤ 100000) :
    Calls Tryz.prog 42 (#[enV x] ++ #[.pointer (some ⟨bp, 0, none⟩)]) W fun e w' => e = .returned (.bool (go15 p x)) ∧ Below W.heap.size W w' := by
  have HC := Lib.hid (fun W' => under_any x.1 p (by omega) (by omega) W')
  have hb0 : Below W.heap.size W (W.alloc (.cells #[.string x.1, .int .i64 x.2.1, .string x.2.2] 41)) := (Below.refl _ _).alloc (Nat.le_refl _) _
  have HB0 := Lib.hid hb0
  obtain ⟨r, hr⟩ : ∃ r, und (pl x) p.data.toList = r := ⟨_, rfl⟩
  rw [show und x.1.data.toList p.data.toList = r from hr] at HC
  have cp1 : (W.alloc (.cells #[.string x.1, .int .i64 x.2.1, .string x.2.2] 41)).cell? ⟨bp, 0, none⟩ = some (.string p) := by
    by_cases hlt : bp < W.heap.size
    · exact (hb0.cell (p := ⟨bp, 0, none⟩) hlt).trans cp
    · exfalso
      have : W.heap[bp]? = none := Array.getElem?_eq_none (by omega)
      simp [World.cell?, this] at cp
  by_cases hq : pl x = p.data.toList
  · have gp : (x.1.toList == p.toList) = true := by rw [Lib.toList_data, Lib.toList_data, beq_iff_eq]; exact hq
    have HV := Lib.hid (show go15 p x = true by unfold go15; rw [decide_eq_true hq, Bool.true_or])
    clear hb0 hr hx hp hq HC
    go_enter Tryz.func42, Tryz.ntmps42
    go_wp2
    go_ret
    exact ⟨by rw [HV.out]; rfl, HB0.out⟩
  · have gp : (x.1.toList == p.toList) = false := by rw [Lib.toList_data, Lib.toList_data, beq_eq_false_iff_ne]; exact hq
    have HV := Lib.hid (show go15 p x = r by unfold go15; rw [decide_eq_false hq, Bool.false_or, hr])
    clear hb0 hr hx hp hq
    go_enter Tryz.func42, Tryz.ntmps42
    go_wp2_with fail
    refine (HC.out _).mono ?_
    rintro e w1 ⟨rfl, hb⟩
    have HB := Lib.hid (HB0.out.trans (hb.mono HB0.out.size))
    clear hb
    go_wp2
    go_ret
    exact ⟨by rw [HV.out]; rfl, HB.out⟩
/-- None of them goes. -/
def none15 (p : ByteArray) (l : List Ent) : Prop := ∀ x ∈ l, go15 p x = false
set_option maxRecDepth 10000 in
set_option maxHeartbeats 1000000 in
theorem index15 (t : List Ent) (a : Option Addr) (cap : Nat) (p : ByteArray) (bp : Nat) (w : World) (h : Ents w a cap t) (hs : Sm t) (hl : bp < w.heap.size) (cp : w.cell? ⟨bp, 0, none⟩ = some (.string p)) (hp : p.size ≤ 100000) :
    Calls Tryz.prog 57 #[.slice a t.length cap, .func (.func 42) #[] #[.pointer (some ⟨bp, 0, none⟩)]] w fun e w' => ∃ i : Int, e = .returned (.int .i64 i) ∧ Below w.heap.size w w' ∧ ((i = -1 ∧ none15 p t) ∨ ∃ (k : Nat) (x : Ent), i = (k : Int) ∧ t[k]? = some x ∧ go15 p x = true ∧ none15 p (t.take k)) := by
  have HE := Lib.hid h
  have hlen := hs.1
  have HC : Hid (∀ x ∈ t, ∀ W, Below w.heap.size w W → _) := fun x hx W hW => goes15 x p bp W ((hW.cell (p := ⟨bp, 0, none⟩) hl).trans cp) (hs.2 x hx).1 hp
  clear h hs hl cp hp
  go_enter Tryz.func57, Tryz.ntmps57
  go_wp2
  go_loopg [8] t.length (fun g i wx => ∃ k : Nat, i = .int .i64 (k : Int) ∧ k + g = t.length ∧ Hid (Below w.heap.size w wx) ∧ Hid (none15 p (t.take k)))
  case atStart => exact ⟨0, rfl, by omega, Below.refl _ _, by rw [List.take_zero]; intro y hy; cases hy⟩
  case round =>
    obtain ⟨k, rfl, hk, HB, HN⟩ := hrel
    have hw : IntKind.i64.wrap ((k : Int) + 1) = (k : Int) + 1 := IntWalk.i64_in _ (by omega)
    by_cases hlt : k < t.length
    · have hlt' : (k : Int) < (t.length : Int) := by omega
      obtain ⟨b, off, rfl, _, hc⟩ := Ents.at HE.out HB.out hlt
      have HCX := Lib.hid (HC.out t[k] (List.getElem_mem hlt) wr HB.out)
      have HT := Lib.hid (take_get t k hlt)
      have HX := Lib.hid (List.getElem?_eq_getElem hlt)
      obtain ⟨x, hx⟩ : ∃ x, t[k] = x := ⟨_, rfl⟩
      rw [hx] at hc HCX HT HX
      have c0 := hc.c0
      have c1 := hc.c1
      have c2 := hc.c2
      clear hc hx
      cases hu : go15 p x with
      | true =>
        rw [hu] at HCX
        have HV := Lib.hid hu
        clear hu
        go_wp2_with fail
        refine (HCX.out).mono ?_
        rintro e w1 ⟨rfl, hb⟩
        have HB1 := Lib.hid (HB.out.trans (hb.mono HB.out.size))
        clear hb
        go_wp2
        go_ret
        exact ⟨_, rfl, HB1.out, .inr ⟨k, x, rfl, HX.out, HV.out, HN.out⟩⟩
      | false =>
        rw [hu] at HCX
        have HN1 := Lib.hid (show none15 p (t.take (k + 1)) by
          rw [HT.out]
          intro y hy
          rcases List.mem_append.1 hy with hy | hy
          · exact HN.out y hy
          · rw [List.mem_singleton.1 hy]; exact hu)
        clear hu
        go_wp2_with fail
        refine (HCX.out).mono ?_
        rintro e w1 ⟨rfl, hb⟩
        have HB1 := Lib.hid (HB.out.trans (hb.mono HB.out.size))
        clear hb
        go_wp2
        go_roundg (gk - 1)
        case measure => omega
        case rel => exact ⟨k + 1, by simp, by omega, HB1.out, HN1.out⟩
    · have hlt' : ¬ (k : Int) < (t.length : Int) := by omega
      have HV := Lib.hid (show none15 p t by
        have := HN.out
        rwa [List.take_of_length_le (by omega)] at this)
      go_wp2
      go_ret
      exact ⟨_, rfl, HB.out, .inl ⟨rfl, HV.out⟩⟩
/-- A row under the work of DeleteFunc: what is kept of the first j stands first. -/
structure Part15 (p : ByteArray) (l M : List Ent) (i j : Nat) : Prop where
  len : M.length = l.length
  lt : i < j
  kept : M.take i = (l.take j).filter (fun x => !go15 p x)
  rest : M.drop j = l.drop j
theorem none_filter15 {p : ByteArray} {l : List Ent} (h : none15 p l) : l.filter (fun x => !go15 p x) = l := List.filter_eq_self.2 fun x hx => by simp [h x hx]
theorem Part15.keep {p : ByteArray} {l M : List Ent} {i j : Nat} {x : Ent} (h : Part15 p l M i j) (hx : l[j]? = some x) (hp : go15 p x = false) : Part15 p l (M.set i x) (i + 1) (j + 1) := by
  have hj : j < l.length := (List.getElem?_eq_some_iff.1 hx).1
  have hi : i < M.length := by have := h.lt; have := h.len; omega
  have htk : l.take (j + 1) = l.take j ++ [x] := by rw [List.take_add_one, hx]; rfl
  refine ⟨by simpa using h.len, by have := h.lt; omega, ?_, ?_⟩
  · rw [htk, List.filter_append, ← h.kept, List.take_add_one, List.getElem?_set_self hi, List.take_set_of_le (Nat.le_refl _)]
    simp [hp]
  · rw [List.drop_set_of_lt (by have := h.lt; omega), ← List.drop_drop, ← List.drop_drop, h.rest]
theorem Part15.skip {p : ByteArray} {l M : List Ent} {i j : Nat} {x : Ent} (h : Part15 p l M i j) (hx : l[j]? = some x) (hp : go15 p x = true) : Part15 p l M i (j + 1) := by
  have htk : l.take (j + 1) = l.take j ++ [x] := by rw [List.take_add_one, hx]; rfl
  refine ⟨h.len, by have := h.lt; omega, ?_, ?_⟩
  · rw [htk, List.filter_append, ← h.kept]
    simp [hp]
  · rw [← List.drop_drop, ← List.drop_drop, h.rest]
theorem Part15.get {p : ByteArray} {l M : List Ent} {i j : Nat} (h : Part15 p l M i j) : M[j]? = l[j]? := by
  have := congrArg (·[0]?) h.rest
  simpa using this
set_option maxRecDepth 10000 in
set_option maxHeartbeats 2000000 in
theorem del15 (l : List Ent) (v : Value) (B : Nat) (p : ByteArray) (bp : Nat) (w : World) (h : OwnE w B v l) (hB : B ≤ w.heap.size) (hs : Sm l) (hbp : bp < B) (cp : w.cell? ⟨bp, 0, none⟩ = some (.string p)) (hp : p.size ≤ 100000) :
    Calls Tryz.prog 45 #[v, .func (.func 42) #[] #[.pointer (some ⟨bp, 0, none⟩)]] w fun e w' => ∃ v', e = .returned v' ∧ OwnE w' B v' (rst l p.data.toList) ∧ Below B w w' := by
  obtain ⟨a, cap, rfl, hE⟩ := ents_of_own h
  have HI := Lib.hid (index15 l a cap p bp w hE hs (by omega) cp hp)
  have HO := Lib.hid h
  have HE := Lib.hid hE
  have HBS := Lib.hid hB
  have HL := Lib.hid hs.1
  have HG : Hid (∀ x ∈ l, ∀ W, Below B w W → Calls Tryz.prog 42 (#[enV x] ++ #[.pointer (some ⟨bp, 0, none⟩)]) W fun e w' => e = .returned (.bool (go15 p x)) ∧ Below W.heap.size W w') := fun x hx W hW => goes15 x p bp W ((hW.cell (p := ⟨bp, 0, none⟩) hbp).trans cp) (hs.2 x hx).1 hp
  obtain ⟨R, hR⟩ : ∃ R, rst l p.data.toList = R := ⟨_, rfl⟩
  rw [hR]
  have HR := Lib.hid ((filter_go15 l p).trans hR)
  clear h hE hs hbp cp hp hB hR
  go_enter Tryz.func45, Tryz.ntmps45
  go_wp2_with fail
  refine HI.out.mono ?_
  rintro e w1 ⟨r, rfl, hb1, hr⟩
  have HB1 := Lib.hid (hb1.mono HBS.out)
  have HBW := Lib.hid hb1
  have HRR := Lib.hid hr
  clear hb1 hr HI
  rcases HRR.out with ⟨rfl, hno⟩ | ⟨k, x0, rfl, hx0, hp0, hno⟩
  · clear HRR
    have HNO := Lib.hid ((none_filter15 hno).symm.trans HR.out)
    clear hno
    go_wp2
    go_ret
    exact ⟨_, rfl, by rw [← HNO.out]; exact HO.out.below HBW.out, HB1.out⟩
  · clear HRR
    obtain ⟨n, hn⟩ : ∃ n, l.length = n := ⟨_, rfl⟩
    rw [hn] at HL
    have hk : k < n := by have := (List.getElem?_eq_some_iff.1 hx0).1; omega
    have hk1 : ((k : Int) == -1) = false := by simp
    have hw1 : IntKind.i64.wrap ((k : Int) + 1) = (k : Int) + 1 := IntWalk.i64_in _ (by have := HL.out; omega)
    have HP0 : Hid (Part15 p l l k (k + 1)) := by
      refine ⟨rfl, by omega, ?_, rfl⟩
      rw [List.take_add_one, hx0, List.filter_append, none_filter15 hno]
      simp [hp0]
    obtain ⟨g, rfl⟩ : ∃ g, a = some ⟨g, 0, none⟩ := by
      obtain ⟨_, ⟨h9, h0⟩ | ⟨g, cap', cur, h9, _⟩⟩ := HO.out
      · omega
      · cases h9
        exact ⟨g, rfl⟩
    rw [hn]
    have HOW := Lib.hid (show w1.ownsRow B 41 3 (.slice (some ⟨g, 0, none⟩) n cap) n (l.flatMap enc) by
      have h9 := HO.out
      unfold OwnE at h9
      rw [hn] at h9
      exact own_below14 h9 (HBW.out.block g (own_lt14 h9).2.1))
    have HGB := Lib.hid (own_lt14 HOW.out)
    have HN := Lib.hid hn
    clear hx0 hp0 hno hn HO HE
    go_wp2
    go_loopg [5, 6, 7] (n - (k + 1)) (fun gg v5 v6 _ wx => ∃ (i j : Nat) (M : List Ent), v5 = .int .i64 (i : Int) ∧ v6 = .int .i64 (j : Int) ∧ j + gg = n ∧ Hid (Part15 p l M i j) ∧ Hid (Below B w wx) ∧ Hid (wx.ownsRow B 41 3 (.slice (some ⟨g, 0, none⟩) n cap) n (M.flatMap enc)))
    case atStart => exact ⟨k, k + 1, l, rfl, rfl, by omega, HP0, HB1.out, HOW.out⟩
    case round =>
      clear HP0 hk hk1 hw1 HOW
      obtain ⟨i, j, M, rfl, rfl, hj, HP, HF, HW⟩ := hrel
      by_cases hlt : j < n
      · have hlt' : (j : Int) < (n : Int) := by omega
        have hij := HP.out.lt
        have hin : (i : Int) < (n : Int) := by omega
        have hnc : (n : Int) ≤ (cap : Int) := by have := HGB.out.2.2; omega
        have hw1 : IntKind.i64.wrap ((j : Int) + 1) = (j : Int) + 1 := IntWalk.i64_in _ (by have := HL.out; omega)
        have hw2 : IntKind.i64.wrap ((i : Int) + 1) = (i : Int) + 1 := IntWalk.i64_in _ (by have := HL.out; omega)
        obtain ⟨x, hx⟩ : ∃ x, l[j]? = some x := ⟨_, List.getElem?_eq_getElem (by have := HN.out; omega)⟩
        obtain ⟨y, hy⟩ : ∃ y, M[i]? = some y := ⟨_, List.getElem?_eq_getElem (by have := HN.out; have := HP.out.len; omega)⟩
        have hMj := HP.out.get.trans hx
        have c0 := (own_cell14 HW.out hMj hlt (i := 0) rfl).1
        have c1 := (own_cell14 HW.out hMj hlt (i := 1) rfl).1
        have c2 := (own_cell14 HW.out hMj hlt (i := 2) rfl).1
        rw [Nat.add_zero] at c0
        obtain ⟨W, hW⟩ : ∃ W, wr.alloc (.cells #[.string x.1, .int .i64 x.2.1, .string x.2.2] 41) = W := ⟨_, rfl⟩
        obtain ⟨N, hN⟩ : ∃ N, wr.heap.size = N := ⟨_, rfl⟩
        have hbw : Below wr.heap.size wr W := by rw [← hW]; exact (Below.refl _ _).alloc (Nat.le_refl _) _
        have HBX := Lib.hid (HF.out.trans (hbw.mono (Nat.le_trans HBS.out HF.out.size)))
        have HQ := Lib.hid (show EnAt W N x.1 x.2.1 x.2.2 by rw [← hW, ← hN]; exact enAt_new _ _ _ _)
        have HWW := Lib.hid (own_below14 HW.out (hbw.block g (own_lt14 HW.out).2.1))
        have HX := Lib.hid hx
        have HY := Lib.hid hy
        have HC := Lib.hid (HG.out x (List.mem_of_getElem? hx) W HBX.out)
        have q0 := HQ.out.c0
        have q1 := HQ.out.c1
        have q2 := HQ.out.c2
        clear hx hy hMj hbw hij
        cases hu : go15 p x with
        | false =>
          rw [hu] at HC
          have HPX := Lib.hid hu
          clear hu
          go_wp2_with fail
          refine HC.out.mono ?_
          rintro e w2 ⟨rfl, hb2⟩
          have HB2 := Lib.hid (HBX.out.trans (hb2.mono (Nat.le_trans HBS.out HBX.out.size)))
          have HQ2 := Lib.hid (HQ.out.below hb2)
          have HW2 := Lib.hid (own_below14 HWW.out (hb2.block g (own_lt14 HWW.out).2.1))
          clear q0 q1 q2 c0 c1 c2 hb2 HC
          have q0 := HQ2.out.c0
          have q1 := HQ2.out.c1
          have q2 := HQ2.out.c2
          have hi9 : i < n := by omega
          have d0 := (own_cell14 HW2.out HY.out hi9 (i := 0) rfl).1
          have d1 := (own_cell14 HW2.out HY.out hi9 (i := 1) rfl).1
          have d2 := (own_cell14 HW2.out HY.out hi9 (i := 2) rfl).1
          have f0 := (own_cell14 HW2.out HY.out hi9 (i := 0) rfl).2
          have f1 := (own_cell14 HW2.out HY.out hi9 (i := 1) rfl).2
          have f2 := (own_cell14 HW2.out HY.out hi9 (i := 2) rfl).2
          rw [Nat.add_zero] at d0 f0
          go_wp2
          go_roundg (gk - 1)
          case measure => omega
          case rel =>
            refine ⟨i + 1, j + 1, M.set i x, by simp, by simp, by omega, HP.out.keep HX.out HPX.out, ?_, ?_⟩
            · exact below_cells14 (enc x) w2 g (i * 3) HB2.out HGB.out.1
            · rw [flat_set M (enc_len14 M) i x (by have := HP.out.len; have := HN.out; omega) rfl]
              exact owns_put HW2.out (i * 3) (enc x) (by show i * 3 + 3 ≤ n * 3; omega)
        | true =>
          rw [hu] at HC
          have HPX := Lib.hid hu
          clear hu
          go_wp2_with fail
          refine HC.out.mono ?_
          rintro e w2 ⟨rfl, hb2⟩
          have HB2 := Lib.hid (HBX.out.trans (hb2.mono (Nat.le_trans HBS.out HBX.out.size)))
          have HW2 := Lib.hid (own_below14 HWW.out (hb2.block g (own_lt14 HWW.out).2.1))
          clear q0 q1 q2 c0 c1 c2 hb2 HC
          go_wp2
          go_roundg (gk - 1)
          case measure => omega
          case rel => exact ⟨i, j + 1, M, rfl, by simp, by omega, HP.out.skip HX.out HPX.out, HB2.out, HW2.out⟩
      · have hlt' : ¬ (j : Int) < (n : Int) := by omega
        have hij := HP.out.lt
        have hlen : M.take i = R := by
          rw [HP.out.kept, List.take_of_length_le (by have := HN.out; omega), HR.out]
        have hil : i < n := by omega
        have hin : (i : Int) ≤ (n : Int) := by omega
        have hic : (i : Int) ≤ (cap : Int) := by have := HGB.out.2.2; omega
        have hic2 : ¬ cap = i := by have := HGB.out.2.2; omega
        have hth : wr.there g (i * 3) ((n - i) * 3) := owns_there HW.out (by
          have := HGB.out.2.2
          omega)
        obtain ⟨vs, hvl, hrun⟩ := run_clear_any (P := Tryz.prog) wr 23 41 (entV ⟨#[]⟩ 0 ⟨#[]⟩) 3 Tryz.underlying23 zero_en14 rfl (by decide) (by simp [Value.cells, Value.oneCell']) g (i * 3) (n - i) (cap - i) hth
        have HLN := Lib.hid hlen
        have HIL := Lib.hid hil
        clear hth hvl hlen hil
        go_wp2
        go_ret
        have hli : R.length = i := by
          rw [← HLN.out, List.length_take]
          have := HP.out.len
          have := HN.out
          have := HIL.out
          omega
        have ho := owns_cut HW.out (Nat.le_of_lt HIL.out) vs
        rw [← flat_take M (C := 3) (enc_len14 M), HLN.out] at ho
        have ho' : OwnE (wr.setCells g (i * 3) vs) B (.slice (some ⟨g, 0, none⟩) R.length cap) R := by
          show (wr.setCells g (i * 3) vs).ownsRow B _ 3 (.slice (some ⟨g, 0, none⟩) R.length cap) R.length (R.flatMap enc)
          rw [hli]
          exact ho
        exact ⟨_, by rw [← hli]; rfl, ho', below_cells14 vs wr g (i * 3) HF.out HGB.out.1⟩
end Go.Proofs.YtlnjbadbpddlmaaGreatDoor

namespace Go.Proofs.YtlnjbadbpddlmaaGreatDoor
open Go.RowKit

/-- A row of the call's own lies behind whatever lies behind less. -/
theorem ownE_mono15 {w : World} {B B' : Nat} {v : Value} {l : List Ent} (h : OwnE w B v l) (hB : B' ≤ B) : OwnE w B' v l := by
  obtain ⟨h1, h2 | ⟨g, cap, cur, h3, h4, h5⟩⟩ := h
  · exact ⟨h1, .inl h2⟩
  · exact ⟨h1, .inr ⟨g, cap, cur, h3, Nat.le_trans hB h4, h5⟩⟩
set_option maxRecDepth 10000 in
set_option maxHeartbeats 4000000 in
theorem one15o (l : List Ent) (a : Option Addr) (cap : Nat) (e : Ent) (w : World) (h : Ents w a cap l) (hs : Sm l) (hl : l.length ≤ 900) (hA : Asc l) (he : rE e = true) (hp : e.1.size ≤ 100000) :
    Calls Tryz.prog 28 #[.slice a l.length cap, enV e] w fun r w' => ∃ v, r = .returned v ∧ OwnE w' w.heap.size v (one15 l e) ∧ Below w.heap.size w w' := by
  have hk := kind_of he
  obtain ⟨W, hW⟩ : ∃ W, w.alloc (.cells #[.string e.1, .int .i64 e.2.1, .string e.2.2] 41) = W := ⟨_, rfl⟩
  obtain ⟨N, hN⟩ : ∃ N, w.heap.size = N := ⟨_, rfl⟩
  have hb0 : Below w.heap.size w W := by rw [← hW]; exact (Below.refl _ _).alloc (Nat.le_refl _) _
  have hbk : EnAt W N e.1 e.2.1 e.2.2 := by rw [← hW, ← hN]; exact enAt_new _ _ _ _
  have HB0 := Lib.hid hb0
  have HBK := Lib.hid hbk
  have HCL := Lib.hid (clone15 l a cap W (RowN.below h hb0) (by omega))
  have HS := Lib.hid hs
  have HL := Lib.hid hl
  have HA := Lib.hid hA
  have HP := Lib.hid hp
  have HNW := Lib.hid hbk.lt
  have HPN := Lib.hid (show (pl e) = e.1.data.toList from rfl)
  have hmf : ∀ (fn : Fn) (first cap : Array Value) (w : World), (Instr.makeFunc fn first cap).run Tryz.prog w = .ok (.func fn first cap) w := fun _ _ _ _ => rfl
  obtain ⟨R, hR⟩ : ∃ R, one15 l e = R := ⟨_, rfl⟩
  have HR := Lib.hid hR
  rw [hR]
  clear h hs hl hA he hp hb0 hbk hR
  go_enter Tryz.func28, Tryz.ntmps28
  go_wp2_with fail
  refine (HCL.out).mono ?_
  rintro r w1 ⟨v1, rfl, ho, hb1⟩
  have HO := Lib.hid ho
  have HB1 := Lib.hid hb1
  have HBK1 := Lib.hid (HBK.out.below (hb1.mono (Nat.le_refl _)))
  have c0 := HBK1.out.c0
  have c1 := HBK1.out.c1
  have c2 := HBK1.out.c2
  clear ho hb1
  by_cases k2 : e.2.1 = 2
  · have g2 : (e.2.1 == 2) = true := by rw [k2]; rfl
    have HOP := Lib.hid (opened15 l v1 W.heap.size e w1 HO.out HB1.out.size HA.out (Nat.le_trans HL.out (by decide)))
    rw [show (if is15 e l then l.map (rep15 e) else wth l e) = R by rw [← HR.out, one_dir15 HA.out k2]] at HOP
    clear hk k2
    go_wp2_with fail
    refine (HOP.out).mono ?_
    rintro r w2 ⟨v2, rfl, ho, hb2⟩
    have HE9 := Lib.hid (ownE_mono15 ho HB0.out.size)
    have HB2 := Lib.hid (HB0.out.trans ((HB1.out.trans hb2).mono HB0.out.size))
    clear ho hb2
    go_wp2
    go_ret
    exact ⟨_, rfl, by first | exact HE9.out | (rw [← hN]; exact HE9.out) | (rw [hN]; exact HE9.out), by first | exact HB2.out | (rw [← hN]; exact HB2.out) | (rw [hN]; exact HB2.out)⟩
  · have g2 : (e.2.1 == 2) = false := beq_eq_false_iff_ne.2 k2
    have HRR := Lib.hid (show wth (rst l (pl e)) e = R by rw [← HR.out, one_else15 k2])
    have HDE := Lib.hid (del15 l v1 W.heap.size e.1 N w1.drew (ownE_gen HO.out fun _ _ => rfl) HB1.out.size HS.out HNW.out HBK1.out.c0 HP.out)
    have HPL : Hid (∀ (X : World) (v : Value), W.heap.size ≤ X.heap.size → OwnE X W.heap.size v (rst l (pl e)) → Calls Tryz.prog 44 #[v, enV e] X fun r w' => ∃ v', r = .returned v' ∧ OwnE w' W.heap.size v' R ∧ Below W.heap.size X w') := fun X v hX ho => by
      have h9 := placed15 (rst l (pl e)) v W.heap.size e X ho hX (asc_rst HA.out _) rst_apart15 (Nat.le_trans (len_rst _ _) (Nat.le_trans HL.out (by decide)))
      rw [HRR.out] at h9
      exact h9
    have HKC : Hid (∀ X, Below W.heap.size w1.drew X → EnAt X N e.1 e.2.1 e.2.2) := fun X hX => (show EnAt w1.drew N e.1 e.2.1 e.2.2 from HBK1.out).of (hX.block N HNW.out)
    have HD1 := Lib.hid (show Below W.heap.size W w1.drew from HB1.out.drew)
    have hcase : (e.2.1 == 3) = true ∨ ((e.2.1 == 3) = false ∧ (e.2.1 == 1) = true) ∨ ((e.2.1 == 3) = false ∧ (e.2.1 == 1) = false ∧ (e.2.1 == 4) = true) := by
      simp only [beq_iff_eq, beq_eq_false_iff_ne]
      omega
    clear hk k2
    rcases hcase with g3 | ⟨g3, g1⟩ | ⟨g3, g1, g4⟩
    all_goals
      go_wp2_with fail
      go_region_law
        (first
          | (go_simp; go_at_call 45; refine (HDE.out).mono ?_; rintro r w2 ⟨v2, rfl, ho2, hb2⟩; have q0 := (HKC.out w2 hb2).c0; have q1 := (HKC.out w2 hb2).c1; have q2 := (HKC.out w2 hb2).c2)
          | (go_simp; go_at_call 44; refine (HPL.out _ _ ?_ ?_).mono ?_; (focus (exact Nat.le_trans HD1.out.size hb2.size)); (focus (exact ho2)); rintro r w3 ⟨v3, rfl, ho3, hb3⟩))
      all_goals
        have HE9 := Lib.hid (ownE_mono15 ho3 HB0.out.size)
        have HB2 := Lib.hid (HB0.out.trans ((HD1.out.trans (hb2.trans hb3)).mono HB0.out.size))
        clear ho2 hb2 ho3 hb3 q0 q1 q2
        go_wp2
        go_ret
        exact ⟨_, rfl, by first | exact HE9.out | (rw [← hN]; exact HE9.out) | (rw [hN]; exact HE9.out), by first | exact HB2.out | (rw [← hN]; exact HB2.out) | (rw [hN]; exact HB2.out)⟩
theorem one15c (l : List Ent) (a : Option Addr) (cap : Nat) (e : Ent) (w : World) (h : Ents w a cap l) (hs : Sm l) (hl : l.length ≤ 900) (hA : Asc l) (he : rE e = true) (hp : e.1.size ≤ 100000) :
    Calls Tryz.prog 28 #[.slice a l.length cap, enV e] w fun r w' => ∃ a' c', r = .returned (.slice a' (one15 l e).length c') ∧ Ents w' a' c' (one15 l e) ∧ Below w.heap.size w w' := by
  refine (one15o l a cap e w h hs hl hA he hp).mono ?_
  rintro r w' ⟨v, rfl, ho, hb⟩
  obtain ⟨a', c', rfl, h9⟩ := ents_of_own ho
  exact ⟨a', c', rfl, h9, hb⟩
end Go.Proofs.YtlnjbadbpddlmaaGreatDoor

namespace Go.Proofs.YtlnjbadbpddlmaaGreatDoor
open Go.RowKit

set_option maxRecDepth 10000 in
set_option maxHeartbeats 4000000 in
theorem botm15c (l : List Ent) (a : Option Addr) (cap : Nat) (w : World) (h : Ents w a cap l) (hl : l.length ≤ 1000) :
    Calls Tryz.prog 19 #[.slice a l.length cap] w fun e w' => ∃ a' c', e = .returned (.slice a' (bot15 l).length c') ∧ Ents w' a' c' (bot15 l) ∧ Below w.heap.size w w' := by
  have HE := Lib.hid h
  have HL := Lib.hid hl
  clear h hl
  go_enter Tryz.func19, Tryz.ntmps19
  go_wp2
  go_loopg [3, 8] l.length (fun g v i wx => ∃ n : Nat, i = .int .i64 (n : Int) ∧ n + g = l.length ∧ Hid (OwnE wx w.heap.size v (bot15 (l.take n))) ∧ Hid (Below w.heap.size w wx))
  case atStart => exact ⟨0, rfl, by omega, by simpa [Hid, bot15] using ownE_nil _ _, Below.refl _ _⟩
  case round =>
    obtain ⟨n, rfl, hn, HO, HBI⟩ := hrel
    obtain ⟨v3, hv3⟩ : ∃ v3, u3 = v3 := ⟨_, rfl⟩
    rw [hv3] at HO
    by_cases hlt : n < l.length
    · have hlt' : (n : Int) < (l.length : Int) := by omega
      have hwn : IntKind.i64.wrap ((n : Int) + 1) = (n : Int) + 1 := IntWalk.i64_in _ (by have := HL.out; omega)
      have HST := Lib.hid (show bot15 (l.take (n + 1)) = bot15 (l.take n) ++ bu15 l[n] by rw [take_get l n hlt, bot_snoc15])
      obtain ⟨bq, oq, eq9, _, hcq⟩ := Ents.at HE.out HBI.out hlt
      obtain ⟨x, hx⟩ : ∃ x, l[n] = x := ⟨_, rfl⟩
      rw [hx] at HST hcq
      clear hx
      cases eq9
      have x0 := hcq.c0
      have x1 := hcq.c1
      have x2 := hcq.c2
      clear hcq
      have HFL := Lib.hid (show (bot15 (l.take n)).length ≤ 1000 by
        have h1 := bot_len15 (l.take n)
        rw [List.length_take] at h1
        have := HL.out
        omega)
      have hb : Below wr.heap.size wr (wr.alloc (.cells #[.string x.1, .int .i64 x.2.1, .string x.2.2] 41)) := (Below.refl _ _).alloc (Nat.le_refl _) _
      have hq := enAt_new wr x.1 x.2.1 x.2.2
      obtain ⟨w1, hw1⟩ : ∃ w1, wr.alloc (.cells #[.string x.1, .int .i64 x.2.1, .string x.2.2] 41) = w1 := ⟨_, rfl⟩
      obtain ⟨M1, hM1⟩ : ∃ M1, wr.heap.size = M1 := ⟨_, rfl⟩
      have HM1 := Lib.hid (show w.heap.size ≤ M1 by rw [← hM1]; exact HBI.out.size)
      have HM2 := Lib.hid (show ∀ k, v3.ownBlock = some k → k < M1 by rw [← hM1]; exact fun k hk => (ownE_blk HO.out k hk).2)
      rw [hw1] at hb hq
      rw [hM1] at hq
      have HB1 := Lib.hid (HBI.out.trans (hb.mono HBI.out.size))
      have HO1 := Lib.hid (HO.out.below hb)
      have HQ := Lib.hid hq
      clear hb hq
      have y0 := HQ.out.c0
      have y1 := HQ.out.c1
      have y2 := HQ.out.c2
      have yf1 := HQ.out.f1
      subst hv3
      by_cases k4 : x.2.1 = 4
      · have g4 : (x.2.1 == 4) = true := by rw [k4]; rfl
        have g3 : (x.2.1 == 3) = false := by rw [k4]; rfl
        have HFN := Lib.hid (show bot15 (l.take (n + 1)) = bot15 (l.take n) ++ [((x.1, 2, x.2.2) : Ent)] by
          rw [HST.out]
          unfold bu15
          rw [if_neg (by omega), if_pos k4])
        clear k4
        obtain ⟨U2, hU2, hu2, hb2, ho2⟩ : ∃ U2, w1.setCell ⟨M1, 1, none⟩ (.int .i64 2) = U2 ∧ EnAt U2 M1 x.1 2 x.2.2 ∧ Below w.heap.size w U2 ∧ OwnE U2 w.heap.size u3 (bot15 (l.take n)) := ⟨_, rfl, set_of8 HQ.out 1 (.int .i64 2), HB1.out.setCell (p := ⟨M1, 1, none⟩) HM1.out _, ownE_gen HO1.out fun k hk => Below.heap_setCell _ _ _ _ (by have := HM2.out k hk; show k ≠ M1; omega)⟩
        have HB2 := Lib.hid hb2
        have HQ2 := Lib.hid hu2
        have HO2 := Lib.hid ho2
        clear hu2 hb2 ho2
        have t0 := HQ2.out.c0
        have t1 := HQ2.out.c1
        have t2 := HQ2.out.c2
        go_wp2_with (at_builtin; refine Stopped.go ?_)
        unfold Stopped
        refine wl_putE (by rfl) _ _ (by rfl) w.heap.size u3 _ (x.1, 2, x.2.2) (by rfl) (HO2.out.below ((Below.refl _ _).alloc (Nat.le_refl _) _)) (by have := HB2.out.size; simp; omega) U2.heap.size (by rfl) (enAt_new U2 x.1 2 x.2.2) HFL.out ?_
        intro v6 w6 ho hg
        have HB6 := Lib.hid ((HB2.out.alloc HB2.out.size (.cells #[.string x.1, .int .i64 2, .string x.2.2] 41)).grown hg (by have := HB2.out.size; simp; omega) (fun k hk => (ownE_blk HO2.out k hk).1))
        have HO6 := Lib.hid ho
        clear ho hg
        go_wp2
        go_roundg (l.length - (n + 1))
        case measure => omega
        case rel => exact ⟨n + 1, by simp, by omega, by rw [HFN.out]; exact HO6.out, HB6.out⟩
      · have g4 : (x.2.1 == 4) = false := beq_eq_false_iff_ne.2 k4
        by_cases k3 : x.2.1 = 3
        · have g3 : (x.2.1 == 3) = true := by rw [k3]; rfl
          have HFN := Lib.hid (show bot15 (l.take (n + 1)) = bot15 (l.take n) by
            rw [HST.out]
            unfold bu15
            rw [if_pos k3, List.append_nil])
          clear k3 k4
          go_wp2
          go_roundg (l.length - (n + 1))
          case measure => omega
          case rel => exact ⟨n + 1, by simp, by omega, by rw [HFN.out]; exact HO1.out, HB1.out⟩
        · have g3 : (x.2.1 == 3) = false := beq_eq_false_iff_ne.2 k3
          have HFN := Lib.hid (show bot15 (l.take (n + 1)) = bot15 (l.take n) ++ [x] by
            rw [HST.out]
            unfold bu15
            rw [if_neg k3, if_neg k4])
          clear k3 k4
          go_wp2_with (at_builtin; refine Stopped.go ?_)
          unfold Stopped
          refine wl_putE (by rfl) _ _ (by rfl) w.heap.size u3 _ x (by rfl) (HO1.out.below ((Below.refl _ _).alloc (Nat.le_refl _) _)) (by have := HB1.out.size; simp; omega) w1.heap.size (by rfl) (enAt_new w1 x.1 x.2.1 x.2.2) HFL.out ?_
          intro v6 w6 ho hg
          have HB6 := Lib.hid ((HB1.out.alloc HB1.out.size (.cells #[.string x.1, .int .i64 x.2.1, .string x.2.2] 41)).grown hg (by have := HB1.out.size; simp; omega) (fun k hk => (ownE_blk HO1.out k hk).1))
          have HO6 := Lib.hid ho
          clear ho hg
          go_wp2
          go_roundg (l.length - (n + 1))
          case measure => omega
          case rel => exact ⟨n + 1, by simp, by omega, by rw [HFN.out]; exact HO6.out, HB6.out⟩
    · have hlt' : ¬ (n : Int) < (l.length : Int) := by omega
      have HO2 := HO.out
      rw [List.take_of_length_le (by omega)] at HO2
      rw [← hv3] at HO2
      obtain ⟨a9, c9, hu9, h9⟩ := ents_of_own HO2
      subst hv3
      subst hu9
      have HE9 := Lib.hid h9
      clear HO2 h9
      go_wp2
      go_ret
      exact ⟨a9, c9, rfl, HE9.out, HBI.out⟩
end Go.Proofs.YtlnjbadbpddlmaaGreatDoor

namespace Go.Proofs.YtlnjbadbpddlmaaGreatDoor
open Go.RowKit

theorem bot15c : Bot15 := fun l a c w _ h hR => botm15c l a c w h (Nat.le_trans hR.1 (by decide))
theorem mrg_take15 {high : List Ent} {low : List Ent} {j : Nat} {x : Ent} (hx : high[j]? = some x) : mrg low (high.take (j + 1)) = one15 (mrg low (high.take j)) x := by
  rw [List.take_add_one, hx]
  exact mrg_snoc _ _ _
/-- What the layers on the way are. -/
theorem mrg_way15 {low high : List Ent} (h1 : RightL low) (h2 : RightL high) (j : Nat) : (∀ d ∈ mrg low (high.take j), rE d = true) ∧ Asc (mrg low (high.take j)) ∧ (mrg low (high.take j)).length ≤ 128 ∧ Sm (mrg low (high.take j)) := by
  have hr : ∀ d ∈ mrg low (high.take j), rE d = true := mrg_rE _ h1.2.1 fun d hd => h2.2.1 d (List.mem_of_mem_take hd)
  have hl : (mrg low (high.take j)).length ≤ 128 := by
    have h3 := mrg_len (high.take j) low
    rw [List.length_take] at h3
    have := h1.1
    have := h2.1
    omega
  refine ⟨hr, mrg_asc _ h1.2.2.1, hl, by omega, fun e he => ?_⟩
  obtain ⟨r1, _, _, r4, _⟩ := rightE_parts (hr e he)
  have h54 := isP_len (isP_of_dp r1)
  rw [← Lib.size_eq] at h54
  omega
theorem right_size15 {e : Ent} (h : rE e = true) : e.1.size ≤ 100000 := by
  obtain ⟨r1, _⟩ := rightE_parts h
  have h54 := isP_len (isP_of_dp r1)
  rw [← Lib.size_eq] at h54
  omega
end Go.Proofs.YtlnjbadbpddlmaaGreatDoor
