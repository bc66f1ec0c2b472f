/-
  A slice in memory whose elements are of C cells each: what it holds, said by a list; it stays while what is written lies above it. No condition.
  A slice in memory whose elements are of one cell each: what it holds, said by a list; it stays while what is written lies above it. No condition.
  append(s, t...) where s is a slice that the call made itself and t any slice that lies in memory, nil among them: what is made holds both. No condition but that it fits.
  A region that draws its order, all of whose operations and callees leave what was there as it was (they may make new blocks): one walk, in the order of the text, serves every order. No condition.
  Loads of one cell (an int, a uint32, a string) in a region that leaves what was there as it was (OldQ): rules for the walk. No condition.
  An entry in memory (api.Entry, three cells): its loads and stores. No condition.
  A slice of entries (api.Entry) in memory, and one that a call made itself, told by a list: an element's cells, append. No condition but that it fits.
  Two entries compared: rules for the walk (plain, in a region that reads, in one that leaves what was there as it was). No condition.
  The contract of the document's own Less of two texts (package shaleref08), byte by byte; of Go's own order of texts. Condition: the texts' sizes fit.
  Contracts of the helpers of layer 9's statements: Size and Same of lists of entries. Condition: the lists lie in memory.
  Lists of entries of a size that the contracts take. No condition.
  A slice of slices of entries ([][]api.Entry) in memory, told by a list of lists. No condition.
-/
import Derived.WalkKit
import Derived.OpenShut
import Derived.Deep.Slices
import Derived.Deep.MidRow
import Derived.WideShapes
import Derived.Laws.AppendOwn
import Derived.Deep.AppendSrc
import Derived.Deep.QuietTactic
import Derived.BigQuiet
import Derived.Test.YtlnjbadbpddlmaaDoorProg
import Derived.Test.YtlnjbadbpddlmaaDoorPb
import Derived.Deep.RegionHeld3
import Derived.Laws.StructEq
import Derived.Test.YtlnjbadbpddlmaaDoorPa
import Derived.IntWalk
import Derived.Deep.LoopGhost
import Derived.Lib.Hide
namespace Go.Proofs.YtlnjbadbpddlmaaDoor
open Go.RowKit Go.ChangeShapes Go.WideShapes Go.Deep

/-- A slice that holds a list, each element as C cells. -/
def RowN {α : Type} (C : Nat) (f : α → List Value) (w : World) (a : Option Addr) (cap : Nat) (l : List α) : Prop :=
  l.length ≤ cap ∧ (l = [] ∨ ∃ b off, a = some ⟨b, off, none⟩ ∧ b < w.heap.size ∧ ∀ (j : Nat) x, l[j]? = some x → w.rangeAt b (off + j * C) (f x))
theorem rangeAt_below {w w' : World} {B b o : Nat} {cs : List Value} (h : w.rangeAt b o cs) (hb : Below B w w') (hB : b < B) : w'.rangeAt b o cs := fun j v hv => (hb.cell (p := ⟨b, o + j, none⟩) hB).trans (h j v hv)
theorem RowN.below {α : Type} {C : Nat} {f : α → List Value} {w w' : World} {a : Option Addr} {cap : Nat} {l : List α} (h : RowN C f w a cap l) (hb : Below w.heap.size w w') : RowN C f w' a cap l := by
  obtain ⟨h1, h2⟩ := h
  refine ⟨h1, h2.imp_right ?_⟩
  rintro ⟨b, off, rfl, hlt, hc⟩
  exact ⟨b, off, rfl, Nat.lt_of_lt_of_le hlt hb.size, fun j x hx => rangeAt_below (hc j x hx) hb hlt⟩
theorem RowN.at {α : Type} {C : Nat} {f : α → List Value} {w w' : World} {a : Option Addr} {cap : Nat} {l : List α} (h : RowN C f w a cap l) (hb : Below w.heap.size w w') {k : Nat} (hk : k < l.length) :
    ∃ b off x, a = some ⟨b, off, none⟩ ∧ b < w.heap.size ∧ w'.rangeAt b (off + k * C) (f x) ∧ x ∈ l ∧ l.take (k + 1) = l.take k ++ [x] ∧ l.drop k = x :: l.drop (k + 1) := by
  rcases h.2 with h0 | ⟨b, off, rfl, hlt, hc⟩
  · rw [h0] at hk; simp at hk
  · have hx : l[k]? = some l[k] := List.getElem?_eq_getElem hk
    exact ⟨b, off, l[k], rfl, hlt, rangeAt_below (hc k l[k] hx) hb hlt, List.getElem_mem hk, by rw [List.take_add_one, hx]; rfl, List.drop_eq_getElem_cons hk⟩

theorem list_of {α β : Type} (f : α → β → Prop) (n : Nat) (g : Nat → β) (h : ∀ i, i < n → ∃ x, f x (g i)) : ∃ l : List α, l.length = n ∧ ∀ j x, l[j]? = some x → f x (g j) := by
  induction n with
  | zero => exact ⟨[], rfl, fun j x hx => by simp at hx⟩
  | succ n ih =>
    obtain ⟨l, hl, hf⟩ := ih fun i hi => h i (by omega)
    obtain ⟨y, hy⟩ := h n (by omega)
    refine ⟨l ++ [y], by simp [hl], fun j x hx => ?_⟩
    by_cases hj : j < l.length
    · rw [List.getElem?_append_left hj] at hx
      exact hf j x hx
    · rw [List.getElem?_append_right (by omega)] at hx
      have : j - l.length = 0 := by
        rcases Nat.eq_zero_or_pos (j - l.length) with h0 | h0
        · exact h0
        · rw [List.getElem?_eq_none (by simp; omega)] at hx
          cases hx
      rw [this] at hx
      have e : j = n := by omega
      subst e
      obtain rfl : y = x := by simpa using hx
      exact hy

theorem rowN_open {H α : Type} {enc : TypeId × Value → H} {P : Program} {W : World} {b : Nat} {t e : TypeId} {C : Nat} (f : α → List Value) (ok : α → Prop) (ht : P.underlying t = some (.slice e)) (hC : P.cellsOf e = C) (hC0 : 0 < C)
    (hof : ∀ n cs d, DataW.trod enc P W b (fun _ => true) true n e cs = some d → ∃ x, ok x ∧ cs = f x) {a : Option Addr} {len cap : Nat} {d : DataW H} {ps : List MemPlace}
    (h : ∃ fuel, DataW.trod enc P W b (fun _ => true) true fuel t (Value.slice a len cap).cells.toList = some (d, ps)) : ∃ l : List α, len = l.length ∧ RowN C f W a cap l ∧ (∀ x ∈ l, ok x) ∧ l.length ≤ maxLen := by
  obtain ⟨fuel, hf⟩ := h
  rcases open_slice ht hf with ⟨hcs, _⟩ | ⟨a', len', cap', m, n, D, Pl, hcs, _, hl, hm, hmm, _, hi⟩
  · simp [Value.cells] at hcs
    obtain ⟨rfl, rfl, rfl⟩ := hcs
    exact ⟨[], rfl, ⟨by simp, .inl rfl⟩, by simp, by simp [maxLen]⟩
  · simp [Value.cells] at hcs
    obtain ⟨rfl, rfl, rfl⟩ := hcs
    simp at hmm
    subst hmm
    rw [hC] at hi
    obtain ⟨L, hL, hLf⟩ := list_of (fun x i => ok x ∧ W.cells? b (a'.add (i * C)) C = some (f x)) len id fun i hil => by
      obtain ⟨cs', h1, h2⟩ := hi i (by omega)
      obtain ⟨x, h3, rfl⟩ := hof n cs' _ h2
      exact ⟨x, h3, h1⟩
    refine ⟨L, hL.symm, ⟨by omega, ?_⟩, fun x hx => ?_, by omega⟩
    · by_cases h0 : L = []
      · exact .inl h0
      · right
        obtain ⟨x0, hx0⟩ : ∃ x0, L[0]? = some x0 := by
          cases L with
          | nil => exact absurd rfl h0
          | cons x r => exact ⟨x, rfl⟩
        obtain ⟨bb, off, spot⟩ := a'
        have g0 := (World.cells?_some (hLf 0 x0 hx0).2)
        have c0 := g0.2.2 0 hC0
        have hsome : ∃ v, (f x0)[0]? = some v := ⟨_, List.getElem?_eq_getElem (by rw [g0.2.1]; exact hC0)⟩
        obtain ⟨v0, hv0⟩ := hsome
        rw [hv0] at c0
        have hspot : spot = none := by simpa [Addr.add] using World.cell?_spot c0
        subst hspot
        have hlt : bb < W.heap.size := by
          rcases Nat.lt_or_ge bb W.heap.size with h' | h'
          · exact h'
          · simp [World.cell?, Addr.add, Array.getElem?_eq_none h'] at c0
        refine ⟨bb, off, rfl, hlt, fun j x hx i v hv => ?_⟩
        have gj := World.cells?_some (hLf j x hx).2
        have hil : i < C := by rw [← gj.2.1]; exact (List.getElem?_eq_some_iff.1 hv).1
        have := gj.2.2 i hil
        rw [hv, Go.WideShapes.add_plain, Go.WideShapes.add_plain] at this
        exact this
    · obtain ⟨j, hj⟩ := List.mem_iff_getElem?.1 hx
      exact (hLf j x hj).1
end Go.Proofs.YtlnjbadbpddlmaaDoor

namespace Go.Proofs.YtlnjbadbpddlmaaDoor
open Go.RowKit

/-- A slice that holds a list, each element as one cell. -/
def RowOf {α : Type} (f : α → Value) (w : World) (a : Option Addr) (cap : Nat) (l : List α) : Prop :=
  l.length ≤ cap ∧ (l = [] ∨ ∃ b off, a = some ⟨b, off, none⟩ ∧ b < w.heap.size ∧ ∀ (j : Nat) x, l[j]? = some x → w.cell? ⟨b, off + j, none⟩ = some (f x))
theorem RowOf.below {α : Type} {f : α → Value} {w w' : World} {a : Option Addr} {cap : Nat} {l : List α} (h : RowOf f w a cap l) (hb : Below w.heap.size w w') : RowOf f w' a cap l := by
  obtain ⟨h1, h2⟩ := h
  refine ⟨h1, h2.imp_right ?_⟩
  rintro ⟨b, off, rfl, hlt, hc⟩
  exact ⟨b, off, rfl, Nat.lt_of_lt_of_le hlt hb.size, fun j x hx => (hb.cell (p := ⟨b, off + j, none⟩) hlt).trans (hc j x hx)⟩
theorem RowOf.at {α : Type} {f : α → Value} {w w' : World} {a : Option Addr} {cap : Nat} {l : List α} (h : RowOf f w a cap l) (hb : Below w.heap.size w w') {k : Nat} (hk : k < l.length) :
    ∃ b off x, a = some ⟨b, off, none⟩ ∧ w'.cell? ⟨b, off + k, none⟩ = some (f x) ∧ l.take (k + 1) = l.take k ++ [x] ∧ l.drop k = x :: l.drop (k + 1) := by
  rcases h.2 with h0 | ⟨b, off, rfl, hlt, hc⟩
  · rw [h0] at hk; simp at hk
  · have hx : l[k]? = some l[k] := List.getElem?_eq_getElem hk
    exact ⟨b, off, l[k], rfl, (hb.cell (p := ⟨b, off + k, none⟩) hlt).trans (hc k l[k] hx), by rw [List.take_add_one, hx]; rfl, List.drop_eq_getElem_cons hk⟩
theorem rowOf_mk {α : Type} {f : α → Value} {w : World} {a : Addr} {len cap : Nat} {l : List α} (d : α) (hl : len ≤ l.length) (hc : len ≤ cap) (h : ∀ i, i < l.length → w.cell? (a.add i) = some (f (l.getD i d))) : RowOf f w (some a) cap (l.take len) := by
  refine ⟨by simp; omega, ?_⟩
  by_cases h0 : len = 0
  · exact .inl (by simp [h0])
  · obtain ⟨bb, off, spot⟩ := a
    have hspot : spot = none := by simpa [Addr.add] using World.cell?_spot (h 0 (by omega))
    subst hspot
    have hc0 := h 0 (by omega)
    rw [Go.WideShapes.add_plain] at hc0
    have hlt : bb < w.heap.size := by
      rcases Nat.lt_or_ge bb w.heap.size with h' | h'
      · exact h'
      · simp [World.cell?, Array.getElem?_eq_none h'] at hc0
    refine .inr ⟨bb, off, rfl, hlt, fun j x hx => ?_⟩
    rw [List.getElem?_take] at hx
    split at hx
    · rename_i hj
      have hcj := h j (by omega)
      rw [Go.WideShapes.add_plain, List.getD_eq_getElem?_getD, hx] at hcj
      exact hcj
    · cases hx
end Go.Proofs.YtlnjbadbpddlmaaDoor

namespace Go.Proofs.YtlnjbadbpddlmaaDoor
open Go.RowKit

theorem grownBy_self (w : World) (row : Option Nat) : w.grownBy w row := ⟨rfl, rfl, rfl, Nat.le_refl _, fun _ _ _ => rfl⟩

theorem run_append_any {P : Program} (w : World) (base : Nat) (t ty e : TypeId) (i : TypeInfo) (z : Value) (size bytes : Nat) (ht : P.underlying t = some (.slice e)) (hi : P.info? e = some i) (hz : i.zero = some z)
    (hsize : i.size = size) (hby : i.bytes = bytes) (hzs : z.cells.size = size) (hsz : 0 < size) (v : Value) (n : Nat) (xs : List Value) (hown : w.ownsRow base e size v n xs)
    (aS : Option Addr) (m c : Nat) (news : List Value) (hl : news.length = m * size) (hsrc : ∀ ad, aS = some ad → ∀ j u, news[j]? = some u → w.cell? (ad.add j) = some u) (hnone : aS = none → m = 0) (h1 : ∀ u ∈ news, u.oneCell' = true)
    (h63 : n + m ≤ maxLen) (hbytes : (n + m) * bytes ≤ 140737488355328) (hbase : base ≤ w.heap.size) :
    ∃ v' w', (Builtin.append_ #[t, t] ty #[v, .slice aS m c]).run P w = .ok v' w' ∧ w'.ownsRow base e size v' (n + m) (xs ++ news) ∧ w.grownBy w' v.ownBlock := by
  cases aS with
  | some ad =>
    obtain ⟨v', w', h2, h3, h4, _⟩ := run_append_own (P := P) w base t ty e i z size bytes ht hi hz hsize hby hzs hsz v n xs hown ad m c news hl (hsrc ad rfl) h1 h63 hbytes hbase
    exact ⟨v', w', h2, h3, h4⟩
  | none =>
    obtain rfl := hnone rfl
    obtain rfl : news = [] := List.eq_nil_of_length_eq_zero (by simpa using hl)
    refine ⟨v, w, ?_, by simpa using hown, grownBy_self _ _⟩
    subst hsize
    rcases hown.2 with ⟨rfl, rfl⟩ | ⟨g, cap, cur, rfl, _, _, hnc, _⟩
    · simp [Builtin.append_, run_underlying ht, sizeOf, typeInfo, hi, Builtin.lenOf, Builtin.firstCells]
    · have hr := run_append_room_src (P := P) w t t ty e i ht hi g 0 n cap (.slice none 0 c) 0 [] (Src.ofNil w ht c) (by omega) (fun j hj => by simp at hj) (fun j hj => by simp at hj)
      simpa [World.setCells] using hr

theorem wl_append_any {P : Program} {w : World} {ops : Array Oper} {rest : List Oper} {o : Oper} {a : Act} {Q : Exit → Act → World → Prop} (hgd : o.guard = none) (s x : Operand) (t : TypeId)
    (ho : o.op = .call { callee := .builtin .append, args := #[s, x], argTypes := #[t, t] })
    (base : Nat) (e : TypeId) (i : TypeInfo) (z : Value) (size bytes : Nat) (ht : P.underlying t = some (.slice e)) (hi : P.info? e = some i) (hz : i.zero = some z)
    (hsize : i.size = size) (hby : i.bytes = bytes) (hzs : z.cells.size = size) (hsz : 0 < size) (v : Value) (n : Nat) (xs : List Value) (hs : a.eval s = v) (hown : w.ownsRow base e size v n xs)
    (aS : Option Addr) (m c : Nat) (news : List Value) (hx : a.eval x = .slice aS m c) (hl : news.length = m * size) (hsrc : ∀ ad, aS = some ad → ∀ j u, news[j]? = some u → w.cell? (ad.add j) = some u) (hnone : aS = none → m = 0) (h1 : ∀ u ∈ news, u.oneCell' = true)
    (h63 : n + m ≤ maxLen) (hbytes : (n + m) * bytes ≤ 140737488355328) (hbase : base ≤ w.heap.size)
    (h : ∀ v' w', w'.ownsRow base e size v' (n + m) (xs ++ news) → w.grownBy w' v.ownBlock → wpList P ops Q rest (a.put o.dst v') w') : wpList P ops Q (o :: rest) a w := by
  refine wpList_plain hgd fun K hK => ?_
  obtain ⟨v', w', hr, h2, h3⟩ := run_append_any (P := P) w base t o.type e i z size bytes ht hi hz hsize hby hzs hsz v n xs hown aS m c news hl hsrc hnone h1 h63 hbytes hbase
  unfold Oper.wp execOp
  simp only [ho, resolve, invoke, builtin, Sem.run_bind, Sem.run_pure, Result.andThen_ok, List.map_toArray, List.map_cons, List.map_nil, hs, hx, hr]
  exact hK _ _ (h v' w' h2 h3)

theorem step_append_any {P : Program} {w : World} {ops : Array Oper} {o : Oper} {a : Act} {K : Act → World → Prop} {Q : Exit → Act → World → Prop} {E : Prop} (hgd : o.guard = none) (s x : Operand) (t : TypeId)
    (ho : o.op = .call { callee := .builtin .append, args := #[s, x], argTypes := #[t, t] })
    (base : Nat) (e : TypeId) (i : TypeInfo) (z : Value) (size bytes : Nat) (ht : P.underlying t = some (.slice e)) (hi : P.info? e = some i) (hz : i.zero = some z)
    (hsize : i.size = size) (hby : i.bytes = bytes) (hzs : z.cells.size = size) (hsz : 0 < size) (v : Value) (n : Nat) (xs : List Value) (hs : a.eval s = v) (hown : w.ownsRow base e size v n xs)
    (aS : Option Addr) (m c : Nat) (news : List Value) (hx : a.eval x = .slice aS m c) (hl : news.length = m * size) (hsrc : ∀ ad, aS = some ad → ∀ j u, news[j]? = some u → w.cell? (ad.add j) = some u) (hnone : aS = none → m = 0) (h1 : ∀ u ∈ news, u.oneCell' = true)
    (h63 : n + m ≤ maxLen) (hbytes : (n + m) * bytes ≤ 140737488355328) (hbase : base ≤ w.heap.size)
    (h : ∀ v' w', w'.ownsRow base e size v' (n + m) (xs ++ news) → w.grownBy w' v.ownBlock → K (a.put o.dst v') w') :
    if Region.wanted o (yielded ops a.tmps) = true then Oper.wp P o a w K Q else E := by
  have hw : Region.wanted o (yielded ops a.tmps) = true := by simp [Region.wanted, hgd]
  rw [if_pos hw]
  obtain ⟨v', w', hr, h2, h3⟩ := run_append_any (P := P) w base t o.type e i z size bytes ht hi hz hsize hby hzs hsz v n xs hown aS m c news hl hsrc hnone h1 h63 hbytes hbase
  unfold Oper.wp execOp
  simp only [ho, resolve, invoke, builtin, Sem.run_bind, Sem.run_pure, Result.andThen_ok, List.map_toArray, List.map_cons, List.map_nil, hs, hx, hr]
  exact h v' w' h2 h3

theorem RowOf.src {α : Type} {f : α → Value} {w : World} {a : Option Addr} {cap : Nat} {l : List α} (h : RowOf f w a cap l) : (∀ ad, a = some ad → ∀ j u, (l.map f)[j]? = some u → w.cell? (ad.add j) = some u) ∧ (a = none → l.length = 0) := by
  rcases h.2 with rfl | ⟨b, off, rfl, _, hc⟩
  · exact ⟨fun _ _ j u hu => by simp at hu, fun _ => rfl⟩
  · refine ⟨fun ad e j u hu => ?_, fun e => by cases e⟩
    cases e
    rw [List.getElem?_map] at hu
    cases hx : l[j]? with
    | none => rw [hx] at hu; cases hu
    | some x =>
      rw [hx] at hu
      obtain rfl : f x = u := by simpa using hu
      rw [Addr.add_lit]
      exact hc j x hx
theorem rowOf_owns {α : Type} {f : α → Value} {w : World} {B : Nat} {e : TypeId} {v : Value} {l : List α} (h : w.ownsRow B e 1 v l.length (l.map f)) : ∃ a cap, v = .slice a l.length cap ∧ RowOf f w a cap l ∧ ∀ ad, a = some ad → B ≤ ad.block := by
  obtain ⟨_, ⟨rfl, h0⟩ | ⟨g, cap, cur, rfl, hg, hbk, hc, _, _, ht⟩⟩ := h
  · exact ⟨none, 0, by rw [h0], ⟨by omega, .inl (List.length_eq_zero_iff.1 h0)⟩, fun ad e => by cases e⟩
  · refine ⟨_, cap, rfl, ⟨hc, .inr ⟨g, 0, rfl, (Array.getElem?_eq_some_iff.1 hbk).1, fun j x hx => ?_⟩⟩, fun ad e => by cases e; exact hg⟩
    have hj : j < l.length := (List.getElem?_eq_some_iff.1 hx).1
    have h4 := congrArg (·[j]?) ht
    simp only [List.getElem?_take, Nat.mul_one, if_pos hj, List.getElem?_map, hx, Array.getElem?_toList] at h4
    simp [World.cell?, hbk, h4]
theorem RowOf.set {α : Type} {f : α → Value} {w : World} {a : Option Addr} {cap : Nat} {l : List α} (h : RowOf f w a cap l) {p : Addr} (hne : ∀ ad, a = some ad → ad.block ≠ p.block) (v : Value) : RowOf f (w.setCell p v) a cap l := by
  refine ⟨h.1, h.2.imp_right ?_⟩
  rintro ⟨b, off, rfl, hlt, hc⟩
  refine ⟨b, off, rfl, by simpa [World.setCell] using hlt, fun j x hx => ?_⟩
  rw [World.cell?_setCell_other _ _ _ _ (fun e => hne _ rfl (by rw [e]))]
  exact hc j x hx
theorem RowN.set {α : Type} {C : Nat} {f : α → List Value} {w : World} {a : Option Addr} {cap : Nat} {l : List α} (h : RowN C f w a cap l) {p : Addr} (hne : ∀ ad, a = some ad → ad.block ≠ p.block) (v : Value) : RowN C f (w.setCell p v) a cap l := by
  refine ⟨h.1, h.2.imp_right ?_⟩
  rintro ⟨b, off, rfl, hlt, hc⟩
  refine ⟨b, off, rfl, by simpa [World.setCell] using hlt, fun j x hx i u hu => ?_⟩
  rw [World.cell?_setCell_other _ _ _ _ (fun e => hne _ rfl (by rw [e]))]
  exact hc j x hx i u hu
theorem RowOf.sets {α : Type} {f : α → Value} {a : Option Addr} {cap : Nat} {l : List α} {b : Nat} (hne : ∀ ad, a = some ad → ad.block ≠ b) : ∀ {w : World}, RowOf f w a cap l → ∀ (o : Nat) (vs : List Value), RowOf f (w.setCells b o vs) a cap l := by
  intro w h o vs
  induction vs generalizing w o with
  | nil => exact h
  | cons v r ih => rw [World.setCells]; exact ih (h.set (p := ⟨b, o, none⟩) hne v) (o + 1)
theorem RowN.sets {α : Type} {C : Nat} {f : α → List Value} {a : Option Addr} {cap : Nat} {l : List α} {b : Nat} (hne : ∀ ad, a = some ad → ad.block ≠ b) : ∀ {w : World}, RowN C f w a cap l → ∀ (o : Nat) (vs : List Value), RowN C f (w.setCells b o vs) a cap l := by
  intro w h o vs
  induction vs generalizing w o with
  | nil => exact h
  | cons v r ih => rw [World.setCells]; exact ih (h.set (p := ⟨b, o, none⟩) hne v) (o + 1)
theorem flat_at {α : Type} {C : Nat} {f : α → List Value} : ∀ (l : List α), (∀ x ∈ l, (f x).length = C) → ∀ (j i : Nat) x v, l[j]? = some x → (f x)[i]? = some v → (l.flatMap f)[j * C + i]? = some v
  | [], _, j, i, x, v, hx, _ => by simp at hx
  | y :: r, hC, 0, i, x, v, hx, hv => by
    obtain rfl : y = x := by simpa using hx
    rw [List.flatMap_cons, Nat.zero_mul, Nat.zero_add, List.getElem?_append_left (List.getElem?_eq_some_iff.1 hv).1]
    exact hv
  | y :: r, hC, j + 1, i, x, v, hx, hv => by
    have h1 := hC y List.mem_cons_self
    have := flat_at r (fun x hx => hC x (List.mem_cons_of_mem _ hx)) j i x v (by simpa using hx) hv
    rw [List.flatMap_cons, List.getElem?_append_right (by rw [h1, Nat.succ_mul]; omega), h1, show (j + 1) * C + i - C = j * C + i by rw [Nat.succ_mul]; omega]
    exact this
theorem flat_len {α : Type} {C : Nat} {f : α → List Value} : ∀ (l : List α), (∀ x ∈ l, (f x).length = C) → (l.flatMap f).length = l.length * C
  | [], _ => by simp
  | y :: r, hC => by
    rw [List.flatMap_cons, List.length_append, hC y List.mem_cons_self, flat_len r fun x hx => hC x (List.mem_cons_of_mem _ hx), List.length_cons, Nat.succ_mul, Nat.add_comm]
theorem flat_back {α : Type} {C : Nat} {f : α → List Value} (hC0 : 0 < C) : ∀ (l : List α), (∀ x ∈ l, (f x).length = C) → ∀ (k : Nat) v, (l.flatMap f)[k]? = some v → ∃ x, l[k / C]? = some x ∧ (f x)[k % C]? = some v
  | [], _, k, v, hv => by simp at hv
  | y :: r, hC, k, v, hv => by
    have h1 := hC y List.mem_cons_self
    rw [List.flatMap_cons] at hv
    by_cases hk : k < C
    · rw [List.getElem?_append_left (by omega)] at hv
      exact ⟨y, by rw [Nat.div_eq_of_lt hk]; rfl, by rw [Nat.mod_eq_of_lt hk]; exact hv⟩
    · rw [List.getElem?_append_right (by omega), h1] at hv
      obtain ⟨x, hx, hm⟩ := flat_back hC0 r (fun x hx => hC x (List.mem_cons_of_mem _ hx)) (k - C) v hv
      have e1 : k / C = (k - C) / C + 1 := by rw [Nat.div_eq_sub_div hC0 (by omega)]
      have e2 : k % C = (k - C) % C := Nat.mod_eq_sub_mod (by omega)
      exact ⟨x, by rw [e1]; simpa using hx, by rw [e2]; exact hm⟩
theorem RowN.src {α : Type} {C : Nat} {f : α → List Value} {w : World} {a : Option Addr} {cap : Nat} {l : List α} (h : RowN C f w a cap l) (hC0 : 0 < C) (hC : ∀ x ∈ l, (f x).length = C) : (∀ ad, a = some ad → ∀ j u, (l.flatMap f)[j]? = some u → w.cell? (ad.add j) = some u) ∧ (a = none → l.length = 0) := by
  rcases h.2 with rfl | ⟨b, off, rfl, _, hc⟩
  · exact ⟨fun _ _ j u hu => by simp at hu, fun _ => rfl⟩
  · refine ⟨fun ad e j u hu => ?_, fun e => by cases e⟩
    cases e
    obtain ⟨x, hx, hv⟩ := flat_back hC0 l hC j u hu
    have := hc _ x hx _ u hv
    rw [Addr.add_lit]
    rwa [Nat.add_assoc, Nat.mul_comm, Nat.div_add_mod] at this
theorem rowN_owns {α : Type} {C : Nat} {f : α → List Value} {w : World} {B : Nat} {e : TypeId} {v : Value} {l : List α} (hC : ∀ x ∈ l, (f x).length = C) (h : w.ownsRow B e C v l.length (l.flatMap f)) : ∃ a cap, v = .slice a l.length cap ∧ RowN C f w a cap l ∧ ∀ ad, a = some ad → B ≤ ad.block := by
  obtain ⟨_, ⟨rfl, h0⟩ | ⟨g, cap, cur, rfl, hg, hbk, hc, _, _, ht⟩⟩ := h
  · exact ⟨none, 0, by rw [h0], ⟨by omega, .inl (List.length_eq_zero_iff.1 h0)⟩, fun ad e => by cases e⟩
  · refine ⟨_, cap, rfl, ⟨hc, .inr ⟨g, 0, rfl, (Array.getElem?_eq_some_iff.1 hbk).1, fun j x hx i u hu => ?_⟩⟩, fun ad e => by cases e; exact hg⟩
    have hj : j < l.length := (List.getElem?_eq_some_iff.1 hx).1
    have h5 := flat_at l hC j i x u hx hu
    have hlt : j * C + i < l.length * C := by
      have := (List.getElem?_eq_some_iff.1 h5).1
      rwa [flat_len l hC] at this
    have h4 := congrArg (·[j * C + i]?) ht
    simp only [List.getElem?_take, if_pos hlt, h5, Array.getElem?_toList] at h4
    simp [World.cell?, hbk, h4]
/-- A walk that is told to stand still here. -/
def Stopped (p : Prop) : Prop := p
theorem Stopped.go {p : Prop} (h : Stopped p) : p := h
theorem own_blk {w : World} {B : Nat} {e : TypeId} {C : Nat} {v : Value} {n : Nat} {xs : List Value} (h : w.ownsRow B e C v n xs) : ∀ k, v.ownBlock = some k → B ≤ k := fun k hk => by
  obtain ⟨_, ⟨rfl, _⟩ | ⟨g, cap, cur, rfl, hg, _⟩⟩ := h
  · cases hk
  · simp [Value.ownBlock] at hk
    omega
end Go.Proofs.YtlnjbadbpddlmaaDoor

namespace Go.Proofs.YtlnjbadbpddlmaaDoor
open Go.RowKit

/-- What was there in w0 is as it was. -/
def OldC (w0 w : World) : Prop := Below w0.heap.size w0 w
theorem OldC.self (w0 : World) : OldC w0 w0 := Below.refl _ _
theorem oldC_forall (w0 : World) (p : Prop) : (∀ w, OldC w0 w → p) = p := propext ⟨fun h => h w0 (OldC.self w0), fun h _ _ => h⟩
theorem OldC.then {w0 w w' : World} (h : OldC w0 w) (hb : Below w.heap.size w w') : OldC w0 w' := Below.trans h (hb.mono (Below.size h))
theorem wp_region_old {P : Program} {id : Nat} {Q : Exit → Act → World → Prop} {a : Act} {w : World} {l : List Oper} (hm : P.follows .mixedOrders = true) (hB : Region.lexB .any l.toArray = true)
    (h : wpQuiet P l.toArray (OldC w) (fun a' => ∀ w', OldC w w' → Q .normal a' w') l a) : (Code.region id l.toArray true).wp P Q a w :=
  wp_region_quiet (C := OldC w) hm hB ((Below.refl w.heap.size w).drew) (by simpa using h)
/-- An operation that yields one value in every world in which what was there is as it was. -/
theorem old_eq {P : Program} {o : Oper} {a : Act} {w0 : World} {K : Act → Prop} {v : Value} (h : ∀ w, OldC w0 w → (execOp a.eval o).run P w = .ok (.value v) w) : Oper.quiet P o a (OldC w0) K = K (a.put o.dst v) := by
  apply propext
  constructor
  · rintro ⟨u, h1, h2⟩
    have := h1 w0 (OldC.self w0)
    unfold Oper.quietAt at this
    rw [h w0 (OldC.self w0)] at this
    obtain ⟨_, rfl⟩ := this
    exact h2
  · intro hk
    exact ⟨v, fun w hw => by unfold Oper.quietAt; rw [h w hw]; exact ⟨rfl, rfl⟩, hk⟩
end Go.Proofs.YtlnjbadbpddlmaaDoor

namespace Go.Proofs.YtlnjbadbpddlmaaDoor
open Go.RowKit

/-- A number lies there; it. -/
def IsC1 (k : IntKind) (w : World) : Value → Prop
  | .pointer (some ⟨b, o, none⟩) => ∃ v, w.cell? ⟨b, o, none⟩ = some (.int k v)
  | _ => False
def c1V (w : World) : Value → Value
  | .pointer (some p) => (w.cell? p).getD undef
  | _ => undef
theorem isC1_ptr (k : IntKind) (w : World) (b o : Nat) : IsC1 k w (.pointer (some ⟨b, o, none⟩)) = ∃ v, w.cell? ⟨b, o, none⟩ = some (.int k v) := rfl
theorem c1V_ptr (w : World) (p : Addr) : c1V w (.pointer (some p)) = (w.cell? p).getD undef := rfl
theorem old_ldi {d : Option Tmp} {ty : TypeId} {pos : String} {af : Array Edge} {g : Option (Nat × Bool)} {x : Operand} {a : Act} {w0 : World} {K : Act → Prop} (h : IsC1 .i64 w0 (a.eval x)) :
    Oper.quiet Tryd.prog { dst := d, op := .load 3 x, type := ty, pos := pos, after := af, guard := g } a (OldC w0) K = K (a.put d (c1V w0 (a.eval x))) := by
  refine old_eq fun w hw => ?_
  have hl : (Instr.loadAt 3 (a.eval x)).run Tryd.prog w = .ok (c1V w0 (a.eval x)) w := by
    match a.eval x, h with
    | .pointer (some ⟨b, o, none⟩), ⟨v, hv⟩ =>
      have h2 := (Below.cell hw (p := ⟨b, o, none⟩) (World.block_lt_of_cell? w0 _ hv)).trans hv
      rw [c1V_ptr, hv]
      simp [go_sem, h2]
  unfold execOp
  simp only [Sem.run_bind, Sem.run_pure, Result.andThen_ok, hl]
theorem old_ldu {d : Option Tmp} {ty : TypeId} {pos : String} {af : Array Edge} {g : Option (Nat × Bool)} {x : Operand} {a : Act} {w0 : World} {K : Act → Prop} (h : IsC1 .u32 w0 (a.eval x)) :
    Oper.quiet Tryd.prog { dst := d, op := .load 116 x, type := ty, pos := pos, after := af, guard := g } a (OldC w0) K = K (a.put d (c1V w0 (a.eval x))) := by
  refine old_eq fun w hw => ?_
  have hl : (Instr.loadAt 116 (a.eval x)).run Tryd.prog w = .ok (c1V w0 (a.eval x)) w := by
    match a.eval x, h with
    | .pointer (some ⟨b, o, none⟩), ⟨v, hv⟩ =>
      have h2 := (Below.cell hw (p := ⟨b, o, none⟩) (World.block_lt_of_cell? w0 _ hv)).trans hv
      rw [c1V_ptr, hv]
      simp [go_sem, h2]
  unfold execOp
  simp only [Sem.run_bind, Sem.run_pure, Result.andThen_ok, hl]
/-- A text lies there. -/
def IsS1 (w : World) : Value → Prop
  | .pointer (some ⟨b, o, none⟩) => ∃ v, w.cell? ⟨b, o, none⟩ = some (.string v)
  | _ => False
theorem isS1_ptr (w : World) (b o : Nat) : IsS1 w (.pointer (some ⟨b, o, none⟩)) = ∃ v, w.cell? ⟨b, o, none⟩ = some (.string v) := rfl
theorem old_lds {d : Option Tmp} {ty : TypeId} {pos : String} {af : Array Edge} {g : Option (Nat × Bool)} {x : Operand} {a : Act} {w0 : World} {K : Act → Prop} (h : IsS1 w0 (a.eval x)) :
    Oper.quiet Tryd.prog { dst := d, op := .load 9 x, type := ty, pos := pos, after := af, guard := g } a (OldC w0) K = K (a.put d (c1V w0 (a.eval x))) := by
  refine old_eq fun w hw => ?_
  have hl : (Instr.loadAt 9 (a.eval x)).run Tryd.prog w = .ok (c1V w0 (a.eval x)) w := by
    match a.eval x, h with
    | .pointer (some ⟨b, o, none⟩), ⟨v, hv⟩ =>
      have h2 := (Below.cell hw (p := ⟨b, o, none⟩) (World.block_lt_of_cell? w0 _ hv)).trans hv
      rw [c1V_ptr, hv]
      simp [go_sem, h2]
  unfold execOp
  simp only [Sem.run_bind, Sem.run_pure, Result.andThen_ok, hl]
end Go.Proofs.YtlnjbadbpddlmaaDoor

namespace Go.Proofs.YtlnjbadbpddlmaaDoor
open Go.RowKit

/-- An entry in memory. -/
def EnAt (w : World) (b : Nat) (p : ByteArray) (k : Int) (d : ByteArray) : Prop := w.heap[b]? = some (.cells #[.string p, .int .i64 k, .string d] 45 (0, 0))
theorem cell_of8 {w : World} {b : Nat} {cs : Array Value} {t : TypeId} (h : w.heap[b]? = some (.cells cs t (0, 0))) {j : Nat} {v : Value} (hj : cs[j]? = some v) : w.cell? ⟨b, j, none⟩ = some v ∧ w.frozen? ⟨b, j, none⟩ = false := by
  simp [World.cell?, World.frozen?, h, hj]
theorem set_of8 {w : World} {b : Nat} {cs : Array Value} {t : TypeId} (h : w.heap[b]? = some (.cells cs t (0, 0))) (j : Nat) (v : Value) : (w.setCell ⟨b, j, none⟩ v).heap[b]? = some (.cells (cs.setIfInBounds j v) t (0, 0)) := by
  simp [World.setCell, Array.getElem?_modify, h]
section
variable {w w' : World} {b : Nat} {p d : ByteArray} {k : Int}
theorem enAt_new (w : World) (p : ByteArray) (k : Int) (d : ByteArray) : EnAt (w.alloc (.cells #[.string p, .int .i64 k, .string d] 45)) w.heap.size p k d := heap_alloc_new _ _
theorem EnAt.lt (h : EnAt w b p k d) : b < w.heap.size := (Array.getElem?_eq_some_iff.1 h).1
theorem EnAt.of (h : EnAt w b p k d) (hb : w'.heap[b]? = w.heap[b]?) : EnAt w' b p k d := hb.trans h
theorem EnAt.below (h : EnAt w b p k d) (hb : Below w.heap.size w w') : EnAt w' b p k d := h.of (hb.block b h.lt)
theorem EnAt.c0 (h : EnAt w b p k d) : w.cell? ⟨b, 0, none⟩ = some (.string p) := (cell_of8 h rfl).1
theorem EnAt.c1 (h : EnAt w b p k d) : w.cell? ⟨b, 1, none⟩ = some (.int .i64 k) := (cell_of8 h rfl).1
theorem EnAt.c2 (h : EnAt w b p k d) : w.cell? ⟨b, 2, none⟩ = some (.string d) := (cell_of8 h rfl).1
theorem EnAt.f0 (h : EnAt w b p k d) : w.frozen? ⟨b, 0, none⟩ = false := (cell_of8 h (j := 0) rfl).2
theorem EnAt.f1 (h : EnAt w b p k d) : w.frozen? ⟨b, 1, none⟩ = false := (cell_of8 h (j := 1) rfl).2
theorem EnAt.f2 (h : EnAt w b p k d) : w.frozen? ⟨b, 2, none⟩ = false := (cell_of8 h (j := 2) rfl).2
theorem EnAt.range (h : EnAt w b p k d) : w.rangeAt b 0 [.string p, .int .i64 k, .string d] := fun j v hv => by
  rw [Nat.zero_add]
  exact (cell_of8 h (by simpa using hv)).1
theorem enSize : (Tryd.prog.info? 45).map (·.size) = some 3 := by kernel_rfl
theorem lv_en (h : EnAt w b p k d) : (loadVar 45 ⟨b, 0, none⟩).run Tryd.prog w = .ok (entV p k d) w :=
  run_loadVar_mid w b 0 45 _ _ h.range Tryd.underlying45 rfl (by rw [enSize]; rfl)
theorem ld_en (h : EnAt w b p k d) : (Instr.loadAt 45 (.pointer (some ⟨b, 0, none⟩))).run Tryd.prog w = .ok (entV p k d) w :=
  run_loadAt_mid w b 0 45 _ _ h.range Tryd.underlying45 rfl (by rw [enSize]; rfl)
/-- What a store of a whole entry leaves. -/
abbrev enSet (w : World) (b : Nat) (p : ByteArray) (k : Int) (d : ByteArray) : World := ((w.setCell ⟨b, 0, none⟩ (.string p)).setCell ⟨b, 1, none⟩ (.int .i64 k)).setCell ⟨b, 2, none⟩ (.string d)
theorem EnAt.set (h : EnAt w b p k d) (p' : ByteArray) (k' : Int) (d' : ByteArray) : EnAt (enSet w b p' k' d') b p' k' d' := by
  have h1 := set_of8 h 0 (.string p')
  have h2 := set_of8 h1 1 (.int .i64 k')
  exact set_of8 h2 2 (.string d')
theorem below_en3 {B : Nat} {a : World} (h : Below B a w) (hb : B ≤ b) (p : ByteArray) (k : Int) (d : ByteArray) : Below B a (enSet w b p k d) := ((h.setCell (p := ⟨b, 0, none⟩) hb _).setCell (p := ⟨b, 1, none⟩) hb _).setCell (p := ⟨b, 2, none⟩) hb _
end
end Go.Proofs.YtlnjbadbpddlmaaDoor

namespace Go.Proofs.YtlnjbadbpddlmaaDoor
open Go.RowKit

/-- An entry's cells. -/
abbrev enc (e : Ent) : List Value := [.string e.1, .int .i64 e.2.1, .string e.2.2]
/-- An entry as a value. -/
abbrev enV (e : Ent) : Value := entV e.1 e.2.1 e.2.2
/-- A slice of entries in memory. -/
abbrev Ents (w : World) (a : Option Addr) (cap : Nat) (l : List Ent) : Prop := RowN 3 enc w a cap l
theorem ents_nil (w : World) (a : Option Addr) (cap : Nat) : Ents w a cap [] := ⟨by simp, .inl rfl⟩
/-- An element's cells. -/
structure EnCells (w : World) (b o : Nat) (e : Ent) : Prop where
  c0 : w.cell? ⟨b, o, none⟩ = some (.string e.1)
  c1 : w.cell? ⟨b, o + 1, none⟩ = some (.int .i64 e.2.1)
  c2 : w.cell? ⟨b, o + 2, none⟩ = some (.string e.2.2)
theorem enCells_of {w : World} {b o : Nat} {e : Ent} (h : w.rangeAt b o (enc e)) : EnCells w b o e := ⟨h 0 _ rfl, h 1 _ rfl, h 2 _ rfl⟩
theorem Ents.at {w w' : World} {a : Option Addr} {cap : Nat} {l : List Ent} (h : Ents w a cap l) (hb : Below w.heap.size w w') {k : Nat} (hk : k < l.length) :
    ∃ b off, a = some ⟨b, off, none⟩ ∧ b < w.heap.size ∧ EnCells w' b (off + k * 3) l[k] := by
  rcases h.2 with h0 | ⟨b, off, rfl, hlt, hc⟩
  · rw [h0] at hk; simp at hk
  · exact ⟨b, off, rfl, hlt, enCells_of (rangeAt_below (hc k l[k] (List.getElem?_eq_getElem hk)) hb hlt)⟩
/-- A slice of entries that a call made itself. -/
abbrev OwnE (w : World) (B : Nat) (v : Value) (l : List Ent) : Prop := w.ownsRow B 45 3 v l.length (l.flatMap enc)
theorem ownE_nil (w : World) (B : Nat) : OwnE w B (.slice none 0 0) [] := ⟨by simp, .inl ⟨rfl, rfl⟩⟩
theorem infoEn : (Tryd.prog.info? 45).map (fun i => (i.zero, i.size, i.bytes)) = some (some (entV ⟨#[]⟩ 0 ⟨#[]⟩), 3, 40) := by kernel_rfl
theorem flat_get (l : List Ent) (j i : Nat) (hi : i < 3) : (l.flatMap enc)[j * 3 + i]? = (l[j]?).bind fun e => (enc e)[i]? := by
  induction l generalizing j with
  | nil => simp
  | cons x r ih =>
    rw [List.flatMap_cons]
    cases j with
    | zero =>
      rw [List.getElem?_append_left (by simp; omega)]
      simp
    | succ j =>
      rw [List.getElem?_append_right (by simp; omega)]
      have := ih j
      simp only [List.length_cons, List.length_nil, List.getElem?_cons_succ] at this ⊢
      rw [← this]
      congr 1
      omega
theorem ents_of_own {w : World} {B : Nat} {v : Value} {l : List Ent} (h : OwnE w B v l) : ∃ a cap, v = .slice a l.length cap ∧ Ents w a cap l := by
  obtain ⟨_, ⟨rfl, h0⟩ | ⟨g, cap, cur, rfl, hg, hbk, hc, _, _, ht⟩⟩ := h
  · exact ⟨none, 0, by rw [h0], by omega, .inl (List.length_eq_zero_iff.1 h0)⟩
  · refine ⟨_, cap, rfl, hc, .inr ⟨g, 0, rfl, (Array.getElem?_eq_some_iff.1 hbk).1, fun j x hx i v hv => ?_⟩⟩
    have hi : i < 3 := (List.getElem?_eq_some_iff.1 hv).1
    have hj : j < l.length := (List.getElem?_eq_some_iff.1 hx).1
    have h1 := flat_get l j i hi
    rw [hx, Option.bind_some, hv, ← ht, List.getElem?_take_of_lt (by omega), Array.getElem?_toList] at h1
    rw [Lib.cell_of_heap hbk]
    simpa using h1
theorem ownE_gen {w w' : World} {B : Nat} {v : Value} {l : List Ent} (h : OwnE w B v l) (hb : ∀ k, v.ownBlock = some k → w'.heap[k]? = w.heap[k]?) : OwnE w' B v l := by
  obtain ⟨h1, ⟨rfl, h2⟩ | ⟨g, cap, cur, rfl, h3, h4, h5⟩⟩ := h
  · exact ⟨h1, .inl ⟨rfl, h2⟩⟩
  · exact ⟨h1, .inr ⟨g, cap, cur, rfl, h3, (hb g rfl).trans h4, h5⟩⟩
theorem ownE_blk {w : World} {B : Nat} {v : Value} {l : List Ent} (h : OwnE w B v l) : ∀ k, v.ownBlock = some k → B ≤ k ∧ k < w.heap.size := fun k hk => by
  obtain ⟨_, ⟨rfl, h2⟩ | ⟨g, cap, cur, rfl, h3, h4, _⟩⟩ := h
  · cases hk
  · obtain rfl : g = k := by simpa [Value.ownBlock] using hk
    exact ⟨h3, (Array.getElem?_eq_some_iff.1 h4).1⟩
theorem OwnE.below {w w' : World} {B : Nat} {v : Value} {l : List Ent} (h : OwnE w B v l) (hb : Below w.heap.size w w') : OwnE w' B v l := ownE_gen h fun k hk => hb.block k (ownE_blk h k hk).2
/-- An entry at the end of a slice that a call made itself, the entry in a new block. -/
theorem wl_putE {w : World} {ops : Array Oper} {rest : List Oper} {o : Oper} {a : Act} {Q : Exit → Act → World → Prop} (hgd : o.guard = none) (s x : Operand)
    (ho : o.op = .call { callee := .builtin .append, args := #[s, x], argTypes := #[22, 22] }) (B : Nat) (v : Value) (l : List Ent) (e : Ent) (hs : a.eval s = v) (hown : OwnE w B v l) (hB : B ≤ w.heap.size)
    (M : Nat) (hx : a.eval x = .slice (some ⟨M, 0, none⟩) 1 1) (hM : EnAt w M e.1 e.2.1 e.2.2) (hl : l.length ≤ 1000)
    (h : ∀ v' w', OwnE w' B v' (l ++ [e]) → w.grownBy w' v.ownBlock → wpList Tryd.prog ops Q rest (a.put o.dst v') w') : wpList Tryd.prog ops Q (o :: rest) a w := by
  obtain ⟨ie, hie, hz, hsz, hby⟩ := info_parts infoEn
  refine wl_append_any hgd s x 22 ho B 45 ie _ 3 40 Tryd.underlying22 hie hz hsz hby rfl (by decide) v l.length _ hs hown (some ⟨M, 0, none⟩) 1 1 (enc e) hx rfl ?_ (fun e => by cases e) ?_ (by unfold maxLen; omega) (by omega) hB ?_
  · intro ad e1 j u hu
    cases e1
    rw [Addr.add_lit]
    exact hM.range j u hu
  · intro u hu
    rcases List.mem_cons.1 hu with rfl | hu
    · rfl
    rcases List.mem_cons.1 hu with rfl | hu
    · rfl
    rcases List.mem_cons.1 hu with rfl | hu
    · rfl
    cases hu
  · intro v' w' h1 h2
    refine h v' w' ?_ h2
    unfold OwnE
    rw [List.length_append, List.flatMap_append]
    simpa using h1
theorem ents_block {w : World} {b : Nat} {cs : Array Value} {l : List Ent} {cap : Nat} (h : w.heap[b]? = some (.cells cs 45 (0, 0))) (hc : cs.toList = l.flatMap enc) (hl : l.length ≤ cap) : Ents w (some ⟨b, 0, none⟩) cap l := by
  refine ⟨hl, .inr ⟨b, 0, rfl, (Array.getElem?_eq_some_iff.1 h).1, fun j x hx i v hv => ?_⟩⟩
  have hi : i < 3 := (List.getElem?_eq_some_iff.1 hv).1
  have h1 := flat_get l j i hi
  rw [hx, Option.bind_some, hv, ← hc, Array.getElem?_toList] at h1
  rw [Lib.cell_of_heap h]
  simpa using h1
end Go.Proofs.YtlnjbadbpddlmaaDoor

namespace Go.Proofs.YtlnjbadbpddlmaaDoor
open Go.RowKit

theorem toList_inj {a b : ByteArray} : a.toList = b.toList ↔ a = b := by
  rw [Lib.toList_data, Lib.toList_data]
  exact ⟨ba_ext, fun h => by rw [h]⟩
theorem ent_eql (w : World) (e f : Ent) : (binOp .eql 45 (enV e) (enV f)).run Tryd.prog w = .ok (.bool (decide (e = f))) w := by
  have hd : decide (e = f) = (decide (e.1 = f.1) && decide (e.2.1 = f.2.1) && decide (e.2.2 = f.2.2)) := by
    rw [Bool.eq_iff_iff, Bool.and_eq_true, Bool.and_eq_true, decide_eq_true_iff, decide_eq_true_iff, decide_eq_true_iff, decide_eq_true_iff]
    constructor
    · rintro rfl
      exact ⟨⟨rfl, rfl⟩, rfl⟩
    · rintro ⟨⟨h1, h2⟩, h3⟩
      exact Prod.ext h1 (Prod.ext h2 h3)
  rw [hd]
  simp [go_sem]
  simp only [toList_inj]
  by_cases h1 : e.1 = f.1
  · by_cases h2 : e.2.1 = f.2.1
    · by_cases h3 : e.2.2 = f.2.2
      · simp [h1, h2, h3]
      · simp [h1, h2, h3]
    · simp [h1, h2]
  · simp [h1]
theorem ent_neq (w : World) (e f : Ent) : (binOp .neq 45 (enV e) (enV f)).run Tryd.prog w = .ok (.bool (!decide (e = f))) w := by
  have h := ent_eql w e f
  rw [run_eql_struct] at h
  rw [run_neq_struct]
  generalize (Op.equalIn 10000 45 (.agg #[.string e.1, .int .i64 e.2.1, .string e.2.2]) (.agg #[.string f.1, .int .i64 f.2.1, .string f.2.2])).run Tryd.prog w = r at h
  cases r with
  | ok b w' =>
    simp only [Result.andThen_ok] at h ⊢
    injection h with h1 h2
    injection h1 with h1
    rw [h1, h2]
  | halt x w' => cases h
/-- An entry's value. -/
def IsEv (v : Value) : Prop := ∃ e : Ent, v = enV e
def entOf (v : Value) : Ent := match v with
  | .agg ⟨[.string p, .int _ k, .string d]⟩ => (p, k, d)
  | _ => (⟨#[]⟩, 0, ⟨#[]⟩)
/-- Two entries' values alike? -/
def evEq (v u : Value) : Bool := decide (entOf v = entOf u)
theorem isEv_agg (p : ByteArray) (k : Int) (d : ByteArray) : IsEv (.agg #[.string p, .int .i64 k, .string d]) = True := eq_true ⟨(p, k, d), rfl⟩
theorem evEq_agg (p q : ByteArray) (k m : Int) (d f : ByteArray) : evEq (.agg #[.string p, .int .i64 k, .string d]) (.agg #[.string q, .int .i64 m, .string f]) = decide (((p, k, d) : Ent) = (q, m, f)) := rfl
theorem eta_ent (e : Ent) : ((e.1, e.2.1, e.2.2) : Ent) = e := rfl
theorem guardE_en (op : BinOp) (w : World) (x y : Operand) (c c' : Array Value) : (eqGuard op 45 x y (.agg c) (.agg c')).run Tryd.prog w = .ok () w := run_eqGuard_agg _ op 45 x y c c' (by kernel_rfl)
theorem xeq_en {d : Option Tmp} {ty t2 : TypeId} {pos : String} {af : Array Edge} {g : Option (Nat × Bool)} {x y : Operand} {a : Act} {w : World} (hx : IsEv (a.eval x)) (hy : IsEv (a.eval y)) :
    (execOp a.eval { dst := d, op := .binOp .eql 45 x y t2, type := ty, pos := pos, after := af, guard := g }).run Tryd.prog w = .ok (.value (.bool (evEq (a.eval x) (a.eval y)))) w := by
  obtain ⟨e, h1⟩ := hx
  obtain ⟨f, h2⟩ := hy
  have h := ent_eql w e f
  unfold execOp
  rw [h1, h2, evEq_agg, eta_ent, eta_ent]
  simp only [Sem.run_bind, Sem.run_pure, Result.andThen_ok, h1, h2, guardE_en, h]
theorem xne_en {d : Option Tmp} {ty t2 : TypeId} {pos : String} {af : Array Edge} {g : Option (Nat × Bool)} {x y : Operand} {a : Act} {w : World} (hx : IsEv (a.eval x)) (hy : IsEv (a.eval y)) :
    (execOp a.eval { dst := d, op := .binOp .neq 45 x y t2, type := ty, pos := pos, after := af, guard := g }).run Tryd.prog w = .ok (.value (.bool (!evEq (a.eval x) (a.eval y)))) w := by
  obtain ⟨e, h1⟩ := hx
  obtain ⟨f, h2⟩ := hy
  have h := ent_neq w e f
  unfold execOp
  rw [h1, h2, evEq_agg, eta_ent, eta_ent]
  simp only [Sem.run_bind, Sem.run_pure, Result.andThen_ok, h1, h2, guardE_en, h]
section
variable {d : Option Tmp} {ty t2 : TypeId} {pos : String} {af : Array Edge} {g : Option (Nat × Bool)} {x y : Operand} {a : Act} {w0 : World} {K : Act → Prop} {KW : Act → World → Prop} {Q : Exit → Act → World → Prop}
theorem quiet_eq9 {o : Oper} {C : World → Prop} {v : Value} (h0 : C w0) (h : ∀ w, C w → (execOp a.eval o).run Tryd.prog w = .ok (.value v) w) : Oper.quiet Tryd.prog o a C K = K (a.put o.dst v) := by
  apply propext
  constructor
  · rintro ⟨u, h1, h2⟩
    have := h1 w0 h0
    unfold Oper.quietAt at this
    rw [h w0 h0] at this
    obtain ⟨_, rfl⟩ := this
    exact h2
  · intro hk
    exact ⟨v, fun w hw => by unfold Oper.quietAt; rw [h w hw]; exact ⟨rfl, rfl⟩, hk⟩
theorem qeq_en (hx : IsEv (a.eval x)) (hy : IsEv (a.eval y)) : Oper.quiet Tryd.prog { dst := d, op := .binOp .eql 45 x y t2, type := ty, pos := pos, after := af, guard := g } a (fun w' => ∃ n, w' = w0.drewN n) K = K (a.put d (.bool (evEq (a.eval x) (a.eval y)))) :=
  quiet_eq9 (w0 := w0) ⟨0, rfl⟩ fun _ _ => xeq_en hx hy
theorem qne_en (hx : IsEv (a.eval x)) (hy : IsEv (a.eval y)) : Oper.quiet Tryd.prog { dst := d, op := .binOp .neq 45 x y t2, type := ty, pos := pos, after := af, guard := g } a (fun w' => ∃ n, w' = w0.drewN n) K = K (a.put d (.bool (!evEq (a.eval x) (a.eval y)))) :=
  quiet_eq9 (w0 := w0) ⟨0, rfl⟩ fun _ _ => xne_en hx hy
theorem old_eqen (hx : IsEv (a.eval x)) (hy : IsEv (a.eval y)) : Oper.quiet Tryd.prog { dst := d, op := .binOp .eql 45 x y t2, type := ty, pos := pos, after := af, guard := g } a (OldC w0) K = K (a.put d (.bool (evEq (a.eval x) (a.eval y)))) :=
  quiet_eq9 (OldC.self w0) fun _ _ => xeq_en hx hy
theorem old_neen (hx : IsEv (a.eval x)) (hy : IsEv (a.eval y)) : Oper.quiet Tryd.prog { dst := d, op := .binOp .neq 45 x y t2, type := ty, pos := pos, after := af, guard := g } a (OldC w0) K = K (a.put d (.bool (!evEq (a.eval x) (a.eval y)))) :=
  quiet_eq9 (OldC.self w0) fun _ _ => xne_en hx hy
theorem eqw_en (hx : IsEv (a.eval x)) (hy : IsEv (a.eval y)) : Oper.wp Tryd.prog { dst := d, op := .binOp .eql 45 x y t2, type := ty, pos := pos, after := af, guard := g } a w0 KW Q = KW (a.put d (.bool (evEq (a.eval x) (a.eval y)))) w0 := by
  unfold Oper.wp
  rw [xeq_en hx hy]
  rfl
theorem new_en (hx : IsEv (a.eval x)) (hy : IsEv (a.eval y)) : Oper.wp Tryd.prog { dst := d, op := .binOp .neq 45 x y t2, type := ty, pos := pos, after := af, guard := g } a w0 KW Q = KW (a.put d (.bool (!evEq (a.eval x) (a.eval y)))) w0 := by
  unfold Oper.wp
  rw [xne_en hx hy]
  rfl
end
end Go.Proofs.YtlnjbadbpddlmaaDoor

namespace Go.Proofs.YtlnjbadbpddlmaaDoor
open Go.RowKit

theorem below_drewX {B : Nat} {a w : World} (h : Below B a w) (q : Nat) : Below B a (w.drewN q) := ⟨h.os, h.tape, h.output, h.size, h.block⟩
theorem less_nil (l : List UInt8) : Op.bytesLess l [] = false := by cases l <;> rfl
theorem less_at {a b : List UInt8} {x y : UInt8} {i : Nat} (ha : a[i]? = some x) (hb : b[i]? = some y) : Op.bytesLess (a.drop i) (b.drop i) = (decide (x < y) || (x == y && Op.bytesLess (a.drop (i + 1)) (b.drop (i + 1)))) := by
  obtain ⟨h1, e1⟩ := List.getElem?_eq_some_iff.1 ha
  obtain ⟨h2, e2⟩ := List.getElem?_eq_some_iff.1 hb
  rw [List.drop_eq_getElem_cons h1, List.drop_eq_getElem_cons h2, e1, e2]
  rfl
theorem less_end {a b : List UInt8} {i : Nat} (h : ¬ (i < a.length ∧ i < b.length)) (ha : i ≤ a.length) (hb : i ≤ b.length) : Op.bytesLess (a.drop i) (b.drop i) = decide (a.length < b.length) := by
  by_cases h2 : i < b.length
  · have h1 : a.drop i = [] := List.drop_eq_nil_iff.2 (by omega)
    rw [h1, List.drop_eq_getElem_cons h2, decide_eq_true (by omega)]
    rfl
  · rw [show b.drop i = [] from List.drop_eq_nil_iff.2 (by omega), less_nil, decide_eq_false (by omega)]
end Go.Proofs.YtlnjbadbpddlmaaDoor

namespace Go.Proofs.YtlnjbadbpddlmaaDoor
open Go.RowKit

/-- A list of entries of a size that is looked at. -/
def SizeOK (l : List Ent) : Prop := l.length ≤ 70 ∧ ∀ e ∈ l, e.1.size ≤ 100 ∧ e.2.2.size ≤ 600
instance (l : List Ent) : Decidable (SizeOK l) := inferInstanceAs (Decidable (_ ∧ _))
def okE (e : Ent) : Prop := e.1.size ≤ 100 ∧ e.2.2.size ≤ 600
theorem take_get {α : Type} (l : List α) (k : Nat) (h : k < l.length) : l.take (k + 1) = l.take k ++ [l[k]] := by
  rw [List.take_add_one, List.getElem?_eq_getElem h]
  rfl
set_option maxRecDepth 10000 in
set_option maxHeartbeats 1000000 in
theorem size9 (l : List Ent) (a : Option Addr) (cap : Nat) (w : World) (h : Ents w a cap l) : Calls Tryd.prog 8 #[.slice a l.length cap] w fun e w' => e = .returned (.int .i64 (if SizeOK l then 1 else 0)) ∧ w = w' := by
  obtain ⟨R, hR⟩ : ∃ R : Int, (if SizeOK l then 1 else 0) = R := ⟨_, rfl⟩
  rw [hR]
  have HR := Lib.hid hR
  clear hR
  by_cases h70 : l.length ≤ 70
  · have HE := Lib.hid h
    have HL := Lib.hid h70
    have g70 : ¬ (70 : Int) < (l.length : Int) := by omega
    clear h
    go_enter Tryd.func8, Tryd.ntmps8
    go_wp2
    go_loopg [3] l.length (fun g i wx => ∃ k : Nat, i = .int .i64 (k : Int) ∧ k + g = l.length ∧ Hid (∀ e ∈ l.take k, okE e) ∧ w = wx)
    case atStart => exact ⟨0, rfl, by omega, by intro e he; simp at he, rfl⟩
    case round =>
      obtain ⟨k, rfl, hk, HI, rfl⟩ := hrel
      by_cases hlt : k < l.length
      · have hlt' : (k : Int) < (l.length : Int) := by omega
        obtain ⟨b, off, rfl, hb, hc⟩ := HE.out.at (Below.refl _ _) hlt
        have HT := Lib.hid (take_get l k hlt)
        have HM := Lib.hid (List.getElem_mem hlt)
        obtain ⟨x, hx⟩ : ∃ x, l[k] = x := ⟨_, rfl⟩
        rw [hx] at hc HT HM
        have c0 := hc.c0
        have c2 := hc.c2
        clear hc hx hb
        by_cases g1 : x.1.size ≤ 100
        · have g1' : ¬ (100 : Int) < (x.1.size : Int) := by omega
          by_cases g2 : x.2.2.size ≤ 600
          · have g2' : ¬ (600 : Int) < (x.2.2.size : Int) := by omega
            have HX := Lib.hid (show okE x from ⟨g1, g2⟩)
            clear g1 g2
            go_wp2
            go_roundg (gk - 1)
            case measure => omega
            case rel =>
              refine ⟨k + 1, by simp, by omega, ?_, rfl⟩
              intro e he
              rw [HT.out] at he
              rcases List.mem_append.1 he with he | he
              · exact HI.out e he
              · obtain rfl : e = x := by simpa using he
                exact HX.out
          · have g2' : (600 : Int) < (x.2.2.size : Int) := by omega
            have HX := Lib.hid (show R = 0 by rw [← HR.out, if_neg fun h => g2 (h.2 x HM.out).2])
            clear g1 g2
            go_wp2
            go_ret
            exact ⟨by rw [HX.out]; rfl, rfl⟩
        · have g1' : (100 : Int) < (x.1.size : Int) := by omega
          have HX := Lib.hid (show R = 0 by rw [← HR.out, if_neg fun h => g1 (h.2 x HM.out).1])
          clear g1
          go_wp2
          go_ret
          exact ⟨by rw [HX.out]; rfl, rfl⟩
      · have hlt' : ¬ (k : Int) < (l.length : Int) := by omega
        have HX := Lib.hid (show R = 1 by rw [← HR.out, if_pos ⟨HL.out, fun e he => HI.out e (by rw [List.take_of_length_le (by omega)]; exact he)⟩])
        go_wp2
        go_ret
        exact ⟨by rw [HX.out]; rfl, rfl⟩
  · have g70 : (70 : Int) < (l.length : Int) := by omega
    have HX := Lib.hid (show R = 0 by rw [← HR.out, if_neg fun h => h70 h.1])
    clear h h70
    go_enter Tryd.func8, Tryd.ntmps8
    go_wp2
    go_ret
    exact ⟨by rw [HX.out]; rfl, rfl⟩
attribute [local go_sem ↓] qne_en qeq_en
attribute [local go_sem] isEv_agg evEq_agg eta_ent
theorem take_eq {α : Type} (l m : List α) (k : Nat) (h : k < l.length) (h2 : k < m.length) : l.take (k + 1) = m.take (k + 1) ↔ l.take k = m.take k ∧ l[k] = m[k] := by
  rw [take_get l k h, take_get m k h2]
  constructor
  · intro e
    obtain ⟨e1, e2⟩ := List.append_inj' e rfl
    exact ⟨e1, by simpa using e2⟩
  · rintro ⟨e1, e2⟩
    rw [e1, e2]
set_option maxRecDepth 10000 in
set_option maxHeartbeats 1000000 in
theorem same9 (l m : List Ent) (a a2 : Option Addr) (cap cap2 : Nat) (w : World) (h : Ents w a cap l) (h2 : Ents w a2 cap2 m) (hz : l.length ≤ maxLen) : Calls Tryd.prog 18 #[.slice a l.length cap, .slice a2 m.length cap2] w fun e w' => e = .returned (.int .i64 (if l = m then 1 else 0)) ∧ Below w.heap.size w w' := by
  obtain ⟨R, hR⟩ : ∃ R : Int, (if l = m then 1 else 0) = R := ⟨_, rfl⟩
  rw [hR]
  have HR := Lib.hid hR
  clear hR
  by_cases hl : l.length = m.length
  · have HE := Lib.hid h
    have HE2 := Lib.hid h2
    have HL := Lib.hid hl
    have HZ := Lib.hid hz
    have gl : ((l.length : Int) != (m.length : Int)) = false := by rw [hl]; simp
    clear h h2 hl hz
    go_enter Tryd.func18, Tryd.ntmps18
    go_wp2
    go_loopg [5] l.length (fun g i wx => ∃ k : Nat, i = .int .i64 (k : Int) ∧ k + g = l.length ∧ Hid (l.take k = m.take k) ∧ Hid (Below w.heap.size w wx))
    case atStart => exact ⟨0, rfl, by omega, by simp [Hid], Below.refl _ _⟩
    case round =>
      obtain ⟨k, rfl, hk, HI, HB⟩ := hrel
      by_cases hlt : k < l.length
      · have hlt' : (k : Int) < (l.length : Int) := by omega
        have hlt2 : (k : Int) < (m.length : Int) := by have := HL.out; omega
        obtain ⟨b, off, rfl, hb, hc⟩ := HE.out.at HB.out hlt
        obtain ⟨b2, off2, rfl, hb2, hc2⟩ := HE2.out.at HB.out (show k < m.length by omega)
        have HT := Lib.hid (take_eq l m k hlt (by omega))
        have hw : IntKind.i64.wrap ((k : Int) + 1) = (k : Int) + 1 := IntWalk.i64_in _ (by have := HZ.out; unfold maxLen at this; omega)
        obtain ⟨x, hx⟩ : ∃ x, l[k] = x := ⟨_, rfl⟩
        obtain ⟨y, hy⟩ : ∃ y, m[k]'(by omega) = y := ⟨_, rfl⟩
        rw [hx] at hc
        rw [hy] at hc2
        have HXY := Lib.hid (And.intro hx hy)
        have c0 := hc.c0
        have c1 := hc.c1
        have c2 := hc.c2
        have d0 := hc2.c0
        have d1 := hc2.c1
        have d2 := hc2.c2
        clear hc hc2 hx hy hb hb2
        by_cases hxy : x = y
        · have gxy : decide (x = y) = true := decide_eq_true hxy
          have HN := Lib.hid (show l.take (k + 1) = m.take (k + 1) from HT.out.2 ⟨HI.out, by rw [HXY.out.1, HXY.out.2]; exact hxy⟩)
          clear hxy
          go_wp2
          go_quiet (fail)
          go_wp2
          go_roundg (gk - 1)
          case measure => omega
          case rel => exact ⟨k + 1, by simp, by omega, HN.out, below_drewX HB.out _⟩
        · have gxy : decide (x = y) = false := decide_eq_false hxy
          have HX := Lib.hid (show R = 0 by
            rw [← HR.out, if_neg fun e => hxy ?_]
            subst e
            exact HXY.out.1.symm.trans HXY.out.2)
          clear hxy
          go_wp2
          go_quiet (fail)
          go_wp2
          go_ret
          exact ⟨by rw [HX.out]; rfl, below_drewX HB.out _⟩
      · have hlt' : ¬ (k : Int) < (l.length : Int) := by omega
        have HX := Lib.hid (show R = 1 by
          have := HI.out
          rw [List.take_of_length_le (by omega), List.take_of_length_le (by have := HL.out; omega)] at this
          rw [← HR.out, if_pos this])
        go_wp2
        go_ret
        exact ⟨by rw [HX.out]; rfl, HB.out⟩
  · have gl : ((l.length : Int) != (m.length : Int)) = true := by rw [bne_iff_ne]; omega
    have HX := Lib.hid (show R = 0 by rw [← HR.out, if_neg fun h => hl (by rw [h])])
    clear h h2 hl hz
    go_enter Tryd.func18, Tryd.ntmps18
    go_wp2
    go_ret
    exact ⟨by rw [HX.out]; rfl, Below.refl _ _⟩
end Go.Proofs.YtlnjbadbpddlmaaDoor

namespace Go.Proofs.YtlnjbadbpddlmaaDoor
open Go.RowKit

/-- Of a size that the contracts take. -/
def Sm (l : List Ent) : Prop := l.length ≤ 1000 ∧ ∀ e ∈ l, e.1.size ≤ 100000 ∧ e.2.2.size ≤ 100000
theorem right_nil : RightL [] := ⟨by simp, rl_nil⟩
theorem sm_nil : Sm [] := ⟨by simp, by simp⟩
theorem sm_right {l : List Ent} (h : RightL l) : Sm l := ⟨by have := h.1; omega, fun e he => by
  obtain ⟨h1, _, _, h4, _⟩ := rightE_parts (h.2.1 e he)
  have h54 := isP_len (isP_of_dp h1)
  rw [← Lib.size_eq] at h54
  omega⟩
theorem sm_size {l : List Ent} (h : SizeOK l) : Sm l := ⟨by have := h.1; omega, fun e he => by have := h.2 e he; omega⟩
theorem sm_one {x : Ent} (h : rE x = true) : Sm [x] := ⟨by simp, fun e he => by
  obtain rfl : e = x := by simpa using he
  obtain ⟨h1, _, _, h4, _⟩ := rightE_parts h
  have h54 := isP_len (isP_of_dp h1)
  rw [← Lib.size_eq] at h54
  omega⟩
end Go.Proofs.YtlnjbadbpddlmaaDoor

namespace Go.Proofs.YtlnjbadbpddlmaaDoor
open Go.RowKit

/-- A stack of layers in memory. -/
def Stk (w : World) (a : Option Addr) (cap : Nat) (S : List (List Ent)) : Prop :=
  S.length ≤ cap ∧ (S = [] ∨ ∃ b off, a = some ⟨b, off, none⟩ ∧ b < w.heap.size ∧ ∀ (j : Nat) l, S[j]? = some l → ∃ a' cap', w.cell? ⟨b, off + j, none⟩ = some (.slice a' l.length cap') ∧ Ents w a' cap' l)
theorem stk_empty (w : World) (a : Option Addr) (cap : Nat) : Stk w a cap [] := ⟨by simp, .inl rfl⟩
theorem Stk.below {w w' : World} {a : Option Addr} {cap : Nat} {S : List (List Ent)} (h : Stk w a cap S) (hb : Below w.heap.size w w') : Stk w' a cap S := by
  obtain ⟨h1, h2⟩ := h
  refine ⟨h1, h2.imp_right ?_⟩
  rintro ⟨b, off, rfl, hlt, hc⟩
  refine ⟨b, off, rfl, Nat.lt_of_lt_of_le hlt hb.size, fun j l hl => ?_⟩
  obtain ⟨a', cap', h3, h4⟩ := hc j l hl
  exact ⟨a', cap', (hb.cell (p := ⟨b, off + j, none⟩) hlt).trans h3, RowN.below h4 hb⟩
theorem Stk.at {w w' : World} {a : Option Addr} {cap : Nat} {S : List (List Ent)} (h : Stk w a cap S) (hb : Below w.heap.size w w') {k : Nat} (hk : k < S.length) :
    ∃ b off a' cap', a = some ⟨b, off, none⟩ ∧ w'.cell? ⟨b, off + k, none⟩ = some (.slice a' (S[k]).length cap') ∧ Ents w' a' cap' S[k] := by
  have h := h.below hb
  rcases h.2 with h0 | ⟨b, off, rfl, hlt, hc⟩
  · rw [h0] at hk; simp at hk
  · obtain ⟨a', cap', h3, h4⟩ := hc k S[k] (List.getElem?_eq_getElem hk)
    exact ⟨b, off, a', cap', rfl, h3, h4⟩
theorem Stk.take {w : World} {a : Option Addr} {cap : Nat} {S : List (List Ent)} (h : Stk w a cap S) (n : Nat) : Stk w a cap (S.take n) := by
  obtain ⟨h1, h2⟩ := h
  refine ⟨by rw [List.length_take]; omega, ?_⟩
  rcases h2 with rfl | ⟨b, off, rfl, hlt, hc⟩
  · exact .inl (by simp)
  · refine .inr ⟨b, off, rfl, hlt, fun j l hl => hc j l ?_⟩
    rw [List.getElem?_take] at hl
    split at hl
    · exact hl
    · cases hl
end Go.Proofs.YtlnjbadbpddlmaaDoor
