/-
  The contract of the document's own Settle of a disk (package shaleref05). Condition: the disk's lists lie in memory.
-/
import Derived.Test.YtgjakhfmjnpkcaaDoorS5Ref2
import Derived.Test.YtgjakhfmjnpkcaaDoorBuild5
import Derived.Test.YtgjakhfmjnpkcaaDoorS5Math
import Derived.Deep.CutRange
namespace Go.Proofs.YtgjakhfmjnpkcaaDoor
open Go.RowKit

/-- A write as the document keeps it: where, what, firm. -/
abbrev RfL := Int × PgL × Bool
/-- One write settled: how many weren't firm, what is kept. -/
def stlF (m : Int) (s : Nat × List WrL) (y : RfL) : Nat × List WrL :=
  if y.2.2 then (s.1, s.2 ++ [(y.1, y.2.1)]) else (s.1 + 1, if bitOn m ((s.1 % 64 : Nat) : Int) then s.2 ++ [(y.1, y.2.1)] else s.2)
def stl (m : Int) (L : List RfL) : Nat × List WrL := L.foldl (stlF m) (0, [])
theorem stl_snoc (m : Int) (L : List RfL) (y : RfL) : stl m (L ++ [y]) = stlF m (stl m L) y := by simp [stl]
/-- A slice of a call's own, of elements of C cells each. -/
def OwnL {α : Type} (w : World) (B : Nat) (e : TypeId) (C : Nat) (f : α → List Value) (v : Value) (l : List α) : Prop := w.ownsRow B e C v l.length (l.flatMap f)
theorem OwnL.nil {α : Type} (w : World) (B : Nat) (e : TypeId) (C : Nat) (f : α → List Value) : OwnL w B e C f (.slice none 0 0) [] := ⟨by simp, .inl ⟨rfl, rfl⟩⟩
theorem owns_gen {w w' : World} {B : Nat} {e : TypeId} {C : Nat} {v : Value} {n : Nat} {xs : List Value} (h : w.ownsRow B e C v n xs) (hb : ∀ k, v.ownBlock = some k → w'.heap[k]? = w.heap[k]?) : w'.ownsRow B e C v n xs := by
  obtain ⟨h1, ⟨rfl, h2⟩ | ⟨g, cap, cur, rfl, h3, h4, h5⟩⟩ := h
  · exact ⟨h1, .inl ⟨rfl, h2⟩⟩
  · exact ⟨h1, .inr ⟨g, cap, cur, rfl, h3, (hb g rfl).trans h4, h5⟩⟩
theorem owns_val {w : World} {B : Nat} {e : TypeId} {C : Nat} {v : Value} {n : Nat} {xs : List Value} (h : w.ownsRow B e C v n xs) : ∃ a cap, v = .slice a n cap ∧ (∀ k, v.ownBlock = some k → B ≤ k ∧ k < w.heap.size ∧ ∃ cur, w.heap[k]? = some (.cells cur e (0, 0))) := by
  obtain ⟨_, ⟨rfl, rfl⟩ | ⟨g, cap, cur, rfl, h3, h4, _⟩⟩ := h
  · exact ⟨none, 0, rfl, fun k hk => by cases hk⟩
  · refine ⟨_, cap, rfl, fun k hk => ?_⟩
    obtain rfl : g = k := by simpa [Value.ownBlock] using hk
    exact ⟨h3, (Array.getElem?_eq_some_iff.1 h4).1, cur, h4⟩
/-- Blocks of rows of unlike element types are unlike. -/
theorem owns_ne {w : World} {B B' : Nat} {e e' : TypeId} {C C' : Nat} {v v' : Value} {n n' : Nat} {xs xs' : List Value} (h : w.ownsRow B e C v n xs) (h' : w.ownsRow B' e' C' v' n' xs') (he : e ≠ e') : ∀ k, v.ownBlock = some k → v'.ownBlock ≠ some k := fun k hk hk' => by
  obtain ⟨_, _, _, h1⟩ := owns_val h
  obtain ⟨_, _, _, h2⟩ := owns_val h'
  obtain ⟨_, _, cur, h3⟩ := h1 k hk
  obtain ⟨_, _, cur', h4⟩ := h2 k hk'
  rw [h3] at h4
  injection h4 with h4
  injection h4 with _ h4 _
  exact he h4

/-- What Settle meets in memory: its argument's cells, its answer's, those of what it makes. -/
structure StS (w wx : World) (x : Nat) (dcs ocs : List Value) : Prop where
  below : Below x w wx
  size : x + 3 ≤ wx.heap.size
  box : wx.rangeAt x 0 dcs
  res : wx.there (x + 1) 0 6
  out : wx.rangeAt (x + 1 + 1) 0 ocs
  may : wx.there (x + 1 + 1) 0 6
section
variable {w wx wy : World} {x : Nat} {dcs ocs : List Value}
theorem StS.step (h : StS w wx x dcs ocs) (hb : Below (x + 3) wx wy) : StS w wy x dcs ocs :=
  ⟨h.below.trans (hb.mono (by omega)), Nat.le_trans h.size hb.size, rangeAt_below h.box hb (by omega), there_below h.res hb (by omega), rangeAt_below h.out hb (by omega), there_below h.may hb (by omega)⟩
theorem StS.boxAt (h : StS w wx x dcs ocs) {j : Nat} {v : Value} (hv : dcs[j]? = some v) : wx.cell? ⟨x, j, none⟩ = some v := by
  have := h.box j v hv
  rwa [Nat.zero_add] at this
theorem StS.outAt (h : StS w wx x dcs ocs) {j : Nat} {v : Value} (hv : ocs[j]? = some v) : wx.cell? ⟨x + 1 + 1, j, none⟩ = some v := by
  have := h.out j v hv
  rwa [Nat.zero_add] at this
theorem StS.frozen (h : StS w wx x dcs ocs) {j : Nat} (hj : j < 6) : wx.frozen? ⟨x + 1 + 1, j, none⟩ = false := by
  have := (h.may j hj).2
  rwa [Nat.zero_add] at this
theorem StS.put (h : StS w wx x dcs ocs) (j : Nat) (hj : j < ocs.length) (v : Value) : StS w (wx.setCell ⟨x + 1 + 1, j, none⟩ v) x dcs (ocs.set j v) := by
  refine ⟨h.below.setCell (p := ⟨x + 1 + 1, j, none⟩) (by show x ≤ x + 1 + 1; omega) v, by simpa [World.setCell] using h.size, fun i u hu => ?_, fun i hi => ⟨?_, ?_⟩, fun i u hu => ?_, fun i hi => ⟨?_, ?_⟩⟩
  · rw [World.cell?_setCell_other _ _ _ _ (by simp)]
    exact h.box i u hu
  · rw [World.cell?_setCell_other _ _ _ _ (by simp)]
    exact (h.res i hi).1
  · simpa using (h.res i hi).2
  · rw [Nat.zero_add]
    by_cases e : i = j
    · subst e
      rw [List.getElem?_set_self hj] at hu
      rw [World.cell?_setCell_same _ _ _ (h.outAt (List.getElem?_eq_getElem hj))]
      exact hu
    · rw [List.getElem?_set_ne (Ne.symm e)] at hu
      rw [World.cell?_setCell_other _ _ _ _ (by simp)]
      exact h.outAt hu
  · by_cases e : i = j
    · subst e
      rw [Nat.zero_add, World.cell?_setCell_same _ _ _ (h.outAt (List.getElem?_eq_getElem hj))]
      rfl
    · rw [World.cell?_setCell_other _ _ _ _ (by simp)]
      exact (h.may i hi).1
  · simpa using (h.may i hi).2
end
/-- One element more at the end of a row of the call's own, as a step of a region that draws. -/
theorem step_own {α : Type} {f : α → List Value} {C by_ : Nat} {t e : TypeId} {ie : TypeInfo} {z : Value} {w : World} {ops : Array Oper} {o : Oper} {a : Act} {K : Act → World → Prop} {Q : Exit → Act → World → Prop} {E : Prop} (hgd : o.guard = none) (s x : Operand)
    (ho : o.op = .call { callee := .builtin .append, args := #[s, x], argTypes := #[t, t] }) (ht : Tryd.prog.underlying t = some (.slice e)) (hi : Tryd.prog.info? e = some ie ∧ ie.zero = some z ∧ ie.size = C ∧ ie.bytes = by_) (hzs : z.cells.size = C) (hC : 0 < C)
    {B : Nat} (v : Value) (l : List α) (y : α) (h64 : (f y).length = C) (h1 : ∀ u ∈ f y, u.oneCell' = true) (hf : l.length ≤ 1000) (hby : by_ ≤ 1000) (M : Nat)
    (hs : a.eval s = v) (hx : a.eval x = .slice (some ⟨M, 0, none⟩) 1 1) (hown : OwnL w B e C f v l) (hM : w.rangeAt M 0 (f y)) (hB : B ≤ w.heap.size)
    (h : ∀ a' cap' w', OwnL w' B e C f (.slice a' (l.length + 1) cap') (l ++ [y]) → w.grownBy w' v.ownBlock → K (a.put o.dst (.slice a' (l.length + 1) cap')) w') :
    if Region.wanted o (yielded ops a.tmps) = true then Oper.wp Tryd.prog o a w K Q else E := by
  have hw : Region.wanted o (yielded ops a.tmps) = true := by simp [Region.wanted, hgd]
  rw [if_pos hw]
  have hb2 : (l.length + 1) * by_ ≤ 1001 * 1000 := Nat.mul_le_mul (by omega) hby
  obtain ⟨v', w', hr, h2, h3, _, _⟩ := run_append_own_at (P := Tryd.prog) w B t o.type e ie z C by_ ht hi.1 hi.2.1 hi.2.2.1 hi.2.2.2 hzs hC v l.length _ hown ⟨M, 0, none⟩ 1 1 (f y) (by rw [h64]; simp) (fun j u hu => by rw [Addr.add_lit]; exact hM j u hu) h1 (by unfold maxLen; omega) (by omega) hB
  obtain ⟨a', cap', rfl, _⟩ := owns_val h2
  have e1 : (l ++ [y]).length = l.length + 1 := by simp
  have e2 : (l ++ [y]).flatMap f = l.flatMap f ++ f y := by simp
  unfold Oper.wp execOp
  simp only [ho, resolve, invoke, builtin, Sem.run_bind, Sem.run_pure, Result.andThen_ok, List.map_toArray, List.map_cons, List.map_nil, hs, hx, hr]
  exact h a' cap' w' (by unfold OwnL; rw [e1, e2]; exact h2) h3
theorem slice_ar (w : World) (l : PgL) (h : l.length = 64) : (Instr.buildSlice 32 1 #[(0, .agg (cellsB l).toArray)]).run Tryd.prog w = .ok (.slice (some ⟨w.heap.size, 0, none⟩) 1 1) (w.alloc (.cells (cellsB l).toArray 36)) := by
  obtain ⟨ie, hie, hz, hsz, _⟩ := info_parts infoAr
  have hr : (Array.range (1 * 64)).map ((pgv zpg).cells[· % (pgv zpg).cells.size]!) = zpc := by kernel_rfl
  refine run_buildSlice w 32 36 1 _ _ ie (pgv zpg) Tryd.underlying32 hie hz (by rw [hsz]; decide) (by rw [hsz]; decide) ?_
  rw [hsz, hr]
  have h64 : (cellsB l).length = 64 := by rw [cellsB_len, h]
  have hz64 : (cellsB zpg).length = 64 := by rw [cellsB_len, zpg_len]
  have e : zpc = ([] ++ cellsB zpg ++ []).toArray := by simp [zpc]
  show Instr.fill (fun i => some (i * 64, 64)) zpc _ = _
  rw [e, fill_step (place := fun i => some (i * 64, 64)) (off := 0) (size := 64) rfl (cellsB l) [] (cellsB zpg) [] rfl h64 hz64 rfl]
  simp [Instr.fill]
theorem bsw_ar {d : Option Tmp} {ty : TypeId} {pos : String} {af : Array Edge} {g : Option (Nat × Bool)} {x : Operand} {a : Act} {w : World} {K : Act → World → Prop} {Q : Exit → Act → World → Prop} (hx : IsPv (a.eval x)) :
    Oper.wp Tryd.prog { dst := d, op := .buildSlice 32 1 #[(0, x)], type := ty, pos := pos, after := af, guard := g } a w K Q = K (a.put d (.slice (some ⟨w.heap.size, 0, none⟩) 1 1)) (w.alloc (.cells (sl1 (a.eval x)) 36)) := by
  obtain ⟨y, hl, hp⟩ := hx
  unfold Oper.wp execOp
  have e : sl1 (.agg (cellsB y).toArray) = (cellsB y).toArray := by simp [sl1, cellsV]
  simp only [Sem.run_bind, Sem.run_pure, Result.andThen_ok, List.map_toArray, List.map_cons, List.map_nil, hp, e, slice_ar w y hl]
  rfl
theorem sl1_pg (l : PgL) : sl1 (.agg (cellsB l).toArray) = (cellsB l).toArray := by simp [sl1, cellsV]
/-- What an append of a row of the call's own leaves, the element in a new block. -/
theorem own_append {α : Type} {f : α → List Value} {C by_ : Nat} {t e : TypeId} {ie : TypeInfo} {z : Value} (ty : TypeId) (ht : Tryd.prog.underlying t = some (.slice e)) (hi : Tryd.prog.info? e = some ie ∧ ie.zero = some z ∧ ie.size = C ∧ ie.bytes = by_) (hzs : z.cells.size = C) (hC : 0 < C)
    {B : Nat} {v : Value} {l : List α} {y : α} (h64 : (f y).length = C) (h1 : ∀ u ∈ f y, u.oneCell' = true) (hf : l.length ≤ 1000) (hby : by_ ≤ 1000) {wr W : World} (hW : W = wr.alloc (.cells (f y).toArray e) ∨ W = (wr.alloc (.cells (f y).toArray e)).drew) (hown : OwnL wr B e C f v l) (hB : B ≤ wr.heap.size) :
    ∃ a' cap' w', (Builtin.append_ #[t, t] ty #[v, .slice (some ⟨wr.heap.size, 0, none⟩) 1 1]).run Tryd.prog W = .ok (.slice a' (l.length + 1) cap') w' ∧ OwnL w' B e C f (.slice a' (l.length + 1) cap') (l ++ [y]) ∧ Below B wr w' ∧ (∀ k, k < wr.heap.size → v.ownBlock ≠ some k → w'.heap[k]? = wr.heap[k]?) ∧ B ≤ w'.heap.size := by
  have hb2 : (l.length + 1) * by_ ≤ 1001 * 1000 := Nat.mul_le_mul (by omega) hby
  have hbW : Below wr.heap.size wr W := by
    rcases hW with rfl | rfl
    · exact (Below.refl _ _).alloc (Nat.le_refl _) _
    · exact ((Below.refl _ _).alloc (Nat.le_refl _) _).drew
  have hM : W.rangeAt wr.heap.size 0 (f y) := by
    rcases hW with rfl | rfl
    · exact range_cells wr wr.heap.size rfl (f y) e
    · exact range_cells wr wr.heap.size rfl (f y) e
  have hsW : wr.heap.size ≤ W.heap.size := hbW.size
  have hoW : OwnL W B e C f v l := owns_gen hown fun k hk => hbW.block k (by
    obtain ⟨_, _, _, h⟩ := owns_val hown
    exact (h k hk).2.1)
  obtain ⟨v', w', hr, h2, h3, _, _⟩ := run_append_own_at (P := Tryd.prog) W B t ty e ie z C by_ ht hi.1 hi.2.1 hi.2.2.1 hi.2.2.2 hzs hC v l.length _ hoW ⟨wr.heap.size, 0, none⟩ 1 1 (f y) (by rw [h64]; simp) (fun j u hu => by rw [Addr.add_lit]; exact hM j u hu) h1 (by unfold maxLen; omega) (by omega) (by omega)
  obtain ⟨a', cap', rfl, _⟩ := owns_val h2
  have e1 : (l ++ [y]).length = l.length + 1 := by simp
  have e2 : (l ++ [y]).flatMap f = l.flatMap f ++ f y := by simp
  refine ⟨a', cap', w', hr, by unfold OwnL; rw [e1, e2]; exact h2, (hbW.mono hB).grown h3 (by omega) (fun k hk => ?_), fun k hk hne => (h3.block k (by omega) (fun e => hne e.symm)).trans (hbW.block k hk), by have := h3.size; omega⟩
  obtain ⟨_, _, _, h⟩ := owns_val hown
  exact (h k hk).1
theorem step_own2 {α : Type} {f : α → List Value} {C by_ : Nat} {t e : TypeId} {ie : TypeInfo} {z : Value} {wr : World} {ops : Array Oper} {o : Oper} {a : Act} {K : Act → World → Prop} {Q : Exit → Act → World → Prop} {E : Prop} (hgd : o.guard = none) (s x : Operand)
    (ho : o.op = .call { callee := .builtin .append, args := #[s, x], argTypes := #[t, t] }) (ht : Tryd.prog.underlying t = some (.slice e)) (hi : Tryd.prog.info? e = some ie ∧ ie.zero = some z ∧ ie.size = C ∧ ie.bytes = by_) (hzs : z.cells.size = C) (hC : 0 < C)
    {B : Nat} (v : Value) (l : List α) (y : α) (h64 : (f y).length = C) (h1 : ∀ u ∈ f y, u.oneCell' = true) (hf : l.length ≤ 1000) (hby : by_ ≤ 1000)
    (hs : a.eval s = v) (hx : a.eval x = .slice (some ⟨wr.heap.size, 0, none⟩) 1 1) (hown : OwnL wr B e C f v l) (hB : B ≤ wr.heap.size)
    (h : ∀ a' cap' w', OwnL w' B e C f (.slice a' (l.length + 1) cap') (l ++ [y]) → Below B wr w' → (∀ k, k < wr.heap.size → v.ownBlock ≠ some k → w'.heap[k]? = wr.heap[k]?) → B ≤ w'.heap.size → K (a.put o.dst (.slice a' (l.length + 1) cap')) w') :
    if Region.wanted o (yielded ops a.tmps) = true then Oper.wp Tryd.prog o a (wr.alloc (.cells (f y).toArray e)).drew K Q else E := by
  have hw : Region.wanted o (yielded ops a.tmps) = true := by simp [Region.wanted, hgd]
  rw [if_pos hw]
  obtain ⟨a', cap', w', hr, h2, h3, h4, h5⟩ := own_append o.type ht hi hzs hC h64 h1 hf hby (.inr rfl) hown hB
  unfold Oper.wp execOp
  simp only [ho, resolve, invoke, builtin, Sem.run_bind, Sem.run_pure, Result.andThen_ok, List.map_toArray, List.map_cons, List.map_nil, hs, hx, hr]
  exact h a' cap' w' h2 h3 h4 h5
theorem wl_own2 {α : Type} {f : α → List Value} {C by_ : Nat} {t e : TypeId} {ie : TypeInfo} {z : Value} {wr : World} {ops : Array Oper} {rest : List Oper} {o : Oper} {a : Act} {Q : Exit → Act → World → Prop} (hgd : o.guard = none) (s x : Operand)
    (ho : o.op = .call { callee := .builtin .append, args := #[s, x], argTypes := #[t, t] }) (ht : Tryd.prog.underlying t = some (.slice e)) (hi : Tryd.prog.info? e = some ie ∧ ie.zero = some z ∧ ie.size = C ∧ ie.bytes = by_) (hzs : z.cells.size = C) (hC : 0 < C)
    {B : Nat} (v : Value) (l : List α) (y : α) (h64 : (f y).length = C) (h1 : ∀ u ∈ f y, u.oneCell' = true) (hf : l.length ≤ 1000) (hby : by_ ≤ 1000)
    (hs : a.eval s = v) (hx : a.eval x = .slice (some ⟨wr.heap.size, 0, none⟩) 1 1) (hown : OwnL wr B e C f v l) (hB : B ≤ wr.heap.size)
    (h : ∀ a' cap' w', OwnL w' B e C f (.slice a' (l.length + 1) cap') (l ++ [y]) → Below B wr w' → (∀ k, k < wr.heap.size → v.ownBlock ≠ some k → w'.heap[k]? = wr.heap[k]?) → B ≤ w'.heap.size → wpList Tryd.prog ops Q rest (a.put o.dst (.slice a' (l.length + 1) cap')) w') :
    wpList Tryd.prog ops Q (o :: rest) a (wr.alloc (.cells (f y).toArray e)) := by
  refine wpList_plain hgd fun K hK => ?_
  obtain ⟨a', cap', w', hr, h2, h3, h4, h5⟩ := own_append o.type ht hi hzs hC h64 h1 hf hby (.inl rfl) hown hB
  unfold Oper.wp execOp
  simp only [ho, resolve, invoke, builtin, Sem.run_bind, Sem.run_pure, Result.andThen_ok, List.map_toArray, List.map_cons, List.map_nil, hs, hx, hr]
  exact hK _ _ (h a' cap' w' h2 h3 h4 h5)
theorem OwnL.beside {α : Type} {f : α → List Value} {w : World} {B : Nat} {e : TypeId} {C : Nat} {v : Value} {l : List α} (h : OwnL w B e C f v l) {p : Addr} (hp : p.block < B) (u : Value) : OwnL (w.setCell p u) B e C f v l :=
  owns_gen h fun k hk => Below.heap_setCell _ _ _ _ (fun e => by
    obtain ⟨_, _, _, h2⟩ := owns_val h
    have := (h2 k hk).1
    omega)
theorem OwnL.apart {α β : Type} {f : α → List Value} {g : β → List Value} {w w' : World} {B : Nat} {e e' : TypeId} {C C' : Nat} {v u : Value} {l : List α} {l' : List β} (h : OwnL w B e C f v l) (h' : OwnL w B e' C' g u l') (he : e' ≠ e) (hk : ∀ k, k < w.heap.size → v.ownBlock ≠ some k → w'.heap[k]? = w.heap[k]?) : OwnL w' B e' C' g u l' :=
  owns_gen h' fun k hku => hk k (by
    obtain ⟨_, _, _, h2⟩ := owns_val h'
    exact (h2 k hku).2.1) (fun hkv => owns_ne h' h he k hku hkv)
end Go.Proofs.YtgjakhfmjnpkcaaDoor
