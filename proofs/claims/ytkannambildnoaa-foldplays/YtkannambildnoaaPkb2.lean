/-
  Loads of one cell (an int, a uint32, a string) in a region that leaves what was there as it was (OldQ): rules for the walk. No condition.
  An entry in memory (api.Entry, three cells): its loads and stores. No condition.
  A slice of entries (api.Entry) in memory, and one that a call made itself, told by a list: an element's cells, append. No condition but that it fits.
  Two entries compared: rules for the walk (plain, in a region that reads, in one that leaves what was there as it was). No condition.
  Loads of an entry (three cells, a variable's or a slice's element) in a region that leaves what was there as it was (OldQ): a rule for the walk. No condition.
  Contracts of the document's own Join of names (package shaleref03) and Parent of a path (package shaleref09). Conditions: six names at most, each of eight bytes at most; a path that is not the root's.
  The contract of the document's own Less of two texts (package shaleref08), byte by byte; of Go's own order of texts. Condition: the texts' sizes fit.
  Contracts of the helpers of layer 9's statements: Size and Same of lists of entries. Condition: the lists lie in memory.
  The contract of the document's own Right of a layer (package shaleref09). Condition: the list lies in memory, has at most 1000 entries, their paths at most 100000 bytes.
  The contract of the document's own Tree of a list (package shaleref10). Condition: the list lies in memory, has at most 2000 entries, their paths at most 100000 bytes.
-/
import Derived.Test.YtkannambildnoaaPkb1
import Derived.Test.YtkannambildnoaaPka1
import Derived.Test.YtkannambildnoaaProg
import Derived.Laws.StructEq
import Derived.BigQuiet
import Derived.Deep.LoopGhost
import Derived.Lib.Hide
import Derived.IntWalk
namespace Go.Proofs.Ytkannambildnoaa
open Go.RowKit

/-- A number lies there; it. -/
def IsC1 (k : IntKind) (w : World) : Value → Prop
  | .pointer (some ⟨b, o, none⟩) => ∃ v, w.cell? ⟨b, o, none⟩ = some (.int k v)
  | _ => False
def c1V (w : World) : Value → Value
  | .pointer (some p) => (w.cell? p).getD undef
  | _ => undef
theorem isC1_ptr (k : IntKind) (w : World) (b o : Nat) : IsC1 k w (.pointer (some ⟨b, o, none⟩)) = ∃ v, w.cell? ⟨b, o, none⟩ = some (.int k v) := rfl
theorem c1V_ptr (w : World) (p : Addr) : c1V w (.pointer (some p)) = (w.cell? p).getD undef := rfl
theorem old_ldi {d : Option Tmp} {ty : TypeId} {pos : String} {af : Array Edge} {g : Option (Nat × Bool)} {x : Operand} {a : Act} {w0 : World} {K : Act → Prop} (h : IsC1 .i64 w0 (a.eval x)) :
    Oper.quiet Try.prog { dst := d, op := .load 3 x, type := ty, pos := pos, after := af, guard := g } a (OldC w0) K = K (a.put d (c1V w0 (a.eval x))) := by
  refine old_eq fun w hw => ?_
  have hl : (Instr.loadAt 3 (a.eval x)).run Try.prog w = .ok (c1V w0 (a.eval x)) w := by
    match a.eval x, h with
    | .pointer (some ⟨b, o, none⟩), ⟨v, hv⟩ =>
      have h2 := (Below.cell hw (p := ⟨b, o, none⟩) (World.block_lt_of_cell? w0 _ hv)).trans hv
      rw [c1V_ptr, hv]
      simp [go_sem, h2]
  unfold execOp
  simp only [Sem.run_bind, Sem.run_pure, Result.andThen_ok, hl]
theorem old_ldu {d : Option Tmp} {ty : TypeId} {pos : String} {af : Array Edge} {g : Option (Nat × Bool)} {x : Operand} {a : Act} {w0 : World} {K : Act → Prop} (h : IsC1 .u32 w0 (a.eval x)) :
    Oper.quiet Try.prog { dst := d, op := .load 87 x, type := ty, pos := pos, after := af, guard := g } a (OldC w0) K = K (a.put d (c1V w0 (a.eval x))) := by
  refine old_eq fun w hw => ?_
  have hl : (Instr.loadAt 87 (a.eval x)).run Try.prog w = .ok (c1V w0 (a.eval x)) w := by
    match a.eval x, h with
    | .pointer (some ⟨b, o, none⟩), ⟨v, hv⟩ =>
      have h2 := (Below.cell hw (p := ⟨b, o, none⟩) (World.block_lt_of_cell? w0 _ hv)).trans hv
      rw [c1V_ptr, hv]
      simp [go_sem, h2]
  unfold execOp
  simp only [Sem.run_bind, Sem.run_pure, Result.andThen_ok, hl]
/-- A text lies there. -/
def IsS1 (w : World) : Value → Prop
  | .pointer (some ⟨b, o, none⟩) => ∃ v, w.cell? ⟨b, o, none⟩ = some (.string v)
  | _ => False
theorem isS1_ptr (w : World) (b o : Nat) : IsS1 w (.pointer (some ⟨b, o, none⟩)) = ∃ v, w.cell? ⟨b, o, none⟩ = some (.string v) := rfl
theorem old_lds {d : Option Tmp} {ty : TypeId} {pos : String} {af : Array Edge} {g : Option (Nat × Bool)} {x : Operand} {a : Act} {w0 : World} {K : Act → Prop} (h : IsS1 w0 (a.eval x)) :
    Oper.quiet Try.prog { dst := d, op := .load 9 x, type := ty, pos := pos, after := af, guard := g } a (OldC w0) K = K (a.put d (c1V w0 (a.eval x))) := by
  refine old_eq fun w hw => ?_
  have hl : (Instr.loadAt 9 (a.eval x)).run Try.prog w = .ok (c1V w0 (a.eval x)) w := by
    match a.eval x, h with
    | .pointer (some ⟨b, o, none⟩), ⟨v, hv⟩ =>
      have h2 := (Below.cell hw (p := ⟨b, o, none⟩) (World.block_lt_of_cell? w0 _ hv)).trans hv
      rw [c1V_ptr, hv]
      simp [go_sem, h2]
  unfold execOp
  simp only [Sem.run_bind, Sem.run_pure, Result.andThen_ok, hl]
end Go.Proofs.Ytkannambildnoaa

namespace Go.Proofs.Ytkannambildnoaa
open Go.RowKit

/-- An entry in memory. -/
def EnAt (w : World) (b : Nat) (p : ByteArray) (k : Int) (d : ByteArray) : Prop := w.heap[b]? = some (.cells #[.string p, .int .i64 k, .string d] 34 (0, 0))
theorem cell_of8 {w : World} {b : Nat} {cs : Array Value} {t : TypeId} (h : w.heap[b]? = some (.cells cs t (0, 0))) {j : Nat} {v : Value} (hj : cs[j]? = some v) : w.cell? ⟨b, j, none⟩ = some v ∧ w.frozen? ⟨b, j, none⟩ = false := by
  simp [World.cell?, World.frozen?, h, hj]
theorem set_of8 {w : World} {b : Nat} {cs : Array Value} {t : TypeId} (h : w.heap[b]? = some (.cells cs t (0, 0))) (j : Nat) (v : Value) : (w.setCell ⟨b, j, none⟩ v).heap[b]? = some (.cells (cs.setIfInBounds j v) t (0, 0)) := by
  simp [World.setCell, Array.getElem?_modify, h]
section
variable {w w' : World} {b : Nat} {p d : ByteArray} {k : Int}
theorem enAt_new (w : World) (p : ByteArray) (k : Int) (d : ByteArray) : EnAt (w.alloc (.cells #[.string p, .int .i64 k, .string d] 34)) w.heap.size p k d := heap_alloc_new _ _
theorem EnAt.lt (h : EnAt w b p k d) : b < w.heap.size := (Array.getElem?_eq_some_iff.1 h).1
theorem EnAt.of (h : EnAt w b p k d) (hb : w'.heap[b]? = w.heap[b]?) : EnAt w' b p k d := hb.trans h
theorem EnAt.below (h : EnAt w b p k d) (hb : Below w.heap.size w w') : EnAt w' b p k d := h.of (hb.block b h.lt)
theorem EnAt.c0 (h : EnAt w b p k d) : w.cell? ⟨b, 0, none⟩ = some (.string p) := (cell_of8 h rfl).1
theorem EnAt.c1 (h : EnAt w b p k d) : w.cell? ⟨b, 1, none⟩ = some (.int .i64 k) := (cell_of8 h rfl).1
theorem EnAt.c2 (h : EnAt w b p k d) : w.cell? ⟨b, 2, none⟩ = some (.string d) := (cell_of8 h rfl).1
theorem EnAt.f0 (h : EnAt w b p k d) : w.frozen? ⟨b, 0, none⟩ = false := (cell_of8 h (j := 0) rfl).2
theorem EnAt.f1 (h : EnAt w b p k d) : w.frozen? ⟨b, 1, none⟩ = false := (cell_of8 h (j := 1) rfl).2
theorem EnAt.f2 (h : EnAt w b p k d) : w.frozen? ⟨b, 2, none⟩ = false := (cell_of8 h (j := 2) rfl).2
theorem EnAt.range (h : EnAt w b p k d) : w.rangeAt b 0 [.string p, .int .i64 k, .string d] := fun j v hv => by
  rw [Nat.zero_add]
  exact (cell_of8 h (by simpa using hv)).1
theorem enSize : (Try.prog.info? 34).map (·.size) = some 3 := by kernel_rfl
theorem lv_en (h : EnAt w b p k d) : (loadVar 34 ⟨b, 0, none⟩).run Try.prog w = .ok (entV p k d) w :=
  run_loadVar_mid w b 0 34 _ _ h.range Try.underlying34 rfl (by rw [enSize]; rfl)
theorem ld_en (h : EnAt w b p k d) : (Instr.loadAt 34 (.pointer (some ⟨b, 0, none⟩))).run Try.prog w = .ok (entV p k d) w :=
  run_loadAt_mid w b 0 34 _ _ h.range Try.underlying34 rfl (by rw [enSize]; rfl)
/-- What a store of a whole entry leaves. -/
abbrev enSet (w : World) (b : Nat) (p : ByteArray) (k : Int) (d : ByteArray) : World := ((w.setCell ⟨b, 0, none⟩ (.string p)).setCell ⟨b, 1, none⟩ (.int .i64 k)).setCell ⟨b, 2, none⟩ (.string d)
theorem EnAt.set (h : EnAt w b p k d) (p' : ByteArray) (k' : Int) (d' : ByteArray) : EnAt (enSet w b p' k' d') b p' k' d' := by
  have h1 := set_of8 h 0 (.string p')
  have h2 := set_of8 h1 1 (.int .i64 k')
  exact set_of8 h2 2 (.string d')
theorem below_en3 {B : Nat} {a : World} (h : Below B a w) (hb : B ≤ b) (p : ByteArray) (k : Int) (d : ByteArray) : Below B a (enSet w b p k d) := ((h.setCell (p := ⟨b, 0, none⟩) hb _).setCell (p := ⟨b, 1, none⟩) hb _).setCell (p := ⟨b, 2, none⟩) hb _
end
end Go.Proofs.Ytkannambildnoaa

namespace Go.Proofs.Ytkannambildnoaa
open Go.RowKit

/-- An entry's cells. -/
abbrev enc (e : Ent) : List Value := [.string e.1, .int .i64 e.2.1, .string e.2.2]
/-- An entry as a value. -/
abbrev enV (e : Ent) : Value := entV e.1 e.2.1 e.2.2
/-- A slice of entries in memory. -/
abbrev Ents (w : World) (a : Option Addr) (cap : Nat) (l : List Ent) : Prop := RowN 3 enc w a cap l
theorem ents_nil (w : World) (a : Option Addr) (cap : Nat) : Ents w a cap [] := ⟨by simp, .inl rfl⟩
/-- An element's cells. -/
structure EnCells (w : World) (b o : Nat) (e : Ent) : Prop where
  c0 : w.cell? ⟨b, o, none⟩ = some (.string e.1)
  c1 : w.cell? ⟨b, o + 1, none⟩ = some (.int .i64 e.2.1)
  c2 : w.cell? ⟨b, o + 2, none⟩ = some (.string e.2.2)
theorem enCells_of {w : World} {b o : Nat} {e : Ent} (h : w.rangeAt b o (enc e)) : EnCells w b o e := ⟨h 0 _ rfl, h 1 _ rfl, h 2 _ rfl⟩
theorem Ents.at {w w' : World} {a : Option Addr} {cap : Nat} {l : List Ent} (h : Ents w a cap l) (hb : Below w.heap.size w w') {k : Nat} (hk : k < l.length) :
    ∃ b off, a = some ⟨b, off, none⟩ ∧ b < w.heap.size ∧ EnCells w' b (off + k * 3) l[k] := by
  rcases h.2 with h0 | ⟨b, off, rfl, hlt, hc⟩
  · rw [h0] at hk; simp at hk
  · exact ⟨b, off, rfl, hlt, enCells_of (rangeAt_below (hc k l[k] (List.getElem?_eq_getElem hk)) hb hlt)⟩
/-- A slice of entries that a call made itself. -/
abbrev OwnE (w : World) (B : Nat) (v : Value) (l : List Ent) : Prop := w.ownsRow B 34 3 v l.length (l.flatMap enc)
theorem ownE_nil (w : World) (B : Nat) : OwnE w B (.slice none 0 0) [] := ⟨by simp, .inl ⟨rfl, rfl⟩⟩
theorem infoEn : (Try.prog.info? 34).map (fun i => (i.zero, i.size, i.bytes)) = some (some (entV ⟨#[]⟩ 0 ⟨#[]⟩), 3, 40) := by kernel_rfl
theorem flat_get (l : List Ent) (j i : Nat) (hi : i < 3) : (l.flatMap enc)[j * 3 + i]? = (l[j]?).bind fun e => (enc e)[i]? := by
  induction l generalizing j with
  | nil => simp
  | cons x r ih =>
    rw [List.flatMap_cons]
    cases j with
    | zero =>
      rw [List.getElem?_append_left (by simp; omega)]
      simp
    | succ j =>
      rw [List.getElem?_append_right (by simp; omega)]
      have := ih j
      simp only [List.length_cons, List.length_nil, List.getElem?_cons_succ] at this ⊢
      rw [← this]
      congr 1
      omega
theorem ents_of_own {w : World} {B : Nat} {v : Value} {l : List Ent} (h : OwnE w B v l) : ∃ a cap, v = .slice a l.length cap ∧ Ents w a cap l := by
  obtain ⟨_, ⟨rfl, h0⟩ | ⟨g, cap, cur, rfl, hg, hbk, hc, _, _, ht⟩⟩ := h
  · exact ⟨none, 0, by rw [h0], by omega, .inl (List.length_eq_zero_iff.1 h0)⟩
  · refine ⟨_, cap, rfl, hc, .inr ⟨g, 0, rfl, (Array.getElem?_eq_some_iff.1 hbk).1, fun j x hx i v hv => ?_⟩⟩
    have hi : i < 3 := (List.getElem?_eq_some_iff.1 hv).1
    have hj : j < l.length := (List.getElem?_eq_some_iff.1 hx).1
    have h1 := flat_get l j i hi
    rw [hx, Option.bind_some, hv, ← ht, List.getElem?_take_of_lt (by omega), Array.getElem?_toList] at h1
    rw [Lib.cell_of_heap hbk]
    simpa using h1
theorem ownE_gen {w w' : World} {B : Nat} {v : Value} {l : List Ent} (h : OwnE w B v l) (hb : ∀ k, v.ownBlock = some k → w'.heap[k]? = w.heap[k]?) : OwnE w' B v l := by
  obtain ⟨h1, ⟨rfl, h2⟩ | ⟨g, cap, cur, rfl, h3, h4, h5⟩⟩ := h
  · exact ⟨h1, .inl ⟨rfl, h2⟩⟩
  · exact ⟨h1, .inr ⟨g, cap, cur, rfl, h3, (hb g rfl).trans h4, h5⟩⟩
theorem ownE_blk {w : World} {B : Nat} {v : Value} {l : List Ent} (h : OwnE w B v l) : ∀ k, v.ownBlock = some k → B ≤ k ∧ k < w.heap.size := fun k hk => by
  obtain ⟨_, ⟨rfl, h2⟩ | ⟨g, cap, cur, rfl, h3, h4, _⟩⟩ := h
  · cases hk
  · obtain rfl : g = k := by simpa [Value.ownBlock] using hk
    exact ⟨h3, (Array.getElem?_eq_some_iff.1 h4).1⟩
theorem OwnE.below {w w' : World} {B : Nat} {v : Value} {l : List Ent} (h : OwnE w B v l) (hb : Below w.heap.size w w') : OwnE w' B v l := ownE_gen h fun k hk => hb.block k (ownE_blk h k hk).2
/-- An entry at the end of a slice that a call made itself, the entry in a new block. -/
theorem wl_putE {w : World} {ops : Array Oper} {rest : List Oper} {o : Oper} {a : Act} {Q : Exit → Act → World → Prop} (hgd : o.guard = none) (s x : Operand)
    (ho : o.op = .call { callee := .builtin .append, args := #[s, x], argTypes := #[23, 23] }) (B : Nat) (v : Value) (l : List Ent) (e : Ent) (hs : a.eval s = v) (hown : OwnE w B v l) (hB : B ≤ w.heap.size)
    (M : Nat) (hx : a.eval x = .slice (some ⟨M, 0, none⟩) 1 1) (hM : EnAt w M e.1 e.2.1 e.2.2) (hl : l.length ≤ 1000)
    (h : ∀ v' w', OwnE w' B v' (l ++ [e]) → w.grownBy w' v.ownBlock → wpList Try.prog ops Q rest (a.put o.dst v') w') : wpList Try.prog ops Q (o :: rest) a w := by
  obtain ⟨ie, hie, hz, hsz, hby⟩ := info_parts infoEn
  refine wl_append_any hgd s x 23 ho B 34 ie _ 3 40 Try.underlying23 hie hz hsz hby rfl (by decide) v l.length _ hs hown (some ⟨M, 0, none⟩) 1 1 (enc e) hx rfl ?_ (fun e => by cases e) ?_ (by unfold maxLen; omega) (by omega) hB ?_
  · intro ad e1 j u hu
    cases e1
    rw [Addr.add_lit]
    exact hM.range j u hu
  · intro u hu
    rcases List.mem_cons.1 hu with rfl | hu
    · rfl
    rcases List.mem_cons.1 hu with rfl | hu
    · rfl
    rcases List.mem_cons.1 hu with rfl | hu
    · rfl
    cases hu
  · intro v' w' h1 h2
    refine h v' w' ?_ h2
    unfold OwnE
    rw [List.length_append, List.flatMap_append]
    simpa using h1
end Go.Proofs.Ytkannambildnoaa

namespace Go.Proofs.Ytkannambildnoaa
open Go.RowKit

theorem toList_inj {a b : ByteArray} : a.toList = b.toList ↔ a = b := by
  rw [Lib.toList_data, Lib.toList_data]
  exact ⟨ba_ext, fun h => by rw [h]⟩
theorem ent_eql (w : World) (e f : Ent) : (binOp .eql 34 (enV e) (enV f)).run Try.prog w = .ok (.bool (decide (e = f))) w := by
  have hd : decide (e = f) = (decide (e.1 = f.1) && decide (e.2.1 = f.2.1) && decide (e.2.2 = f.2.2)) := by
    rw [Bool.eq_iff_iff, Bool.and_eq_true, Bool.and_eq_true, decide_eq_true_iff, decide_eq_true_iff, decide_eq_true_iff, decide_eq_true_iff]
    constructor
    · rintro rfl
      exact ⟨⟨rfl, rfl⟩, rfl⟩
    · rintro ⟨⟨h1, h2⟩, h3⟩
      exact Prod.ext h1 (Prod.ext h2 h3)
  rw [hd]
  simp [go_sem]
  simp only [toList_inj]
  by_cases h1 : e.1 = f.1
  · by_cases h2 : e.2.1 = f.2.1
    · by_cases h3 : e.2.2 = f.2.2
      · simp [h1, h2, h3]
      · simp [h1, h2, h3]
    · simp [h1, h2]
  · simp [h1]
theorem ent_neq (w : World) (e f : Ent) : (binOp .neq 34 (enV e) (enV f)).run Try.prog w = .ok (.bool (!decide (e = f))) w := by
  have h := ent_eql w e f
  rw [run_eql_struct] at h
  rw [run_neq_struct]
  generalize (Op.equalIn 10000 34 (.agg #[.string e.1, .int .i64 e.2.1, .string e.2.2]) (.agg #[.string f.1, .int .i64 f.2.1, .string f.2.2])).run Try.prog w = r at h
  cases r with
  | ok b w' =>
    simp only [Result.andThen_ok] at h ⊢
    injection h with h1 h2
    injection h1 with h1
    rw [h1, h2]
  | halt x w' => cases h
/-- An entry's value. -/
def IsEv (v : Value) : Prop := ∃ e : Ent, v = enV e
def entOf (v : Value) : Ent := match v with
  | .agg ⟨[.string p, .int _ k, .string d]⟩ => (p, k, d)
  | _ => (⟨#[]⟩, 0, ⟨#[]⟩)
/-- Two entries' values alike? -/
def evEq (v u : Value) : Bool := decide (entOf v = entOf u)
theorem isEv_agg (p : ByteArray) (k : Int) (d : ByteArray) : IsEv (.agg #[.string p, .int .i64 k, .string d]) = True := eq_true ⟨(p, k, d), rfl⟩
theorem evEq_agg (p q : ByteArray) (k m : Int) (d f : ByteArray) : evEq (.agg #[.string p, .int .i64 k, .string d]) (.agg #[.string q, .int .i64 m, .string f]) = decide (((p, k, d) : Ent) = (q, m, f)) := rfl
theorem eta_ent (e : Ent) : ((e.1, e.2.1, e.2.2) : Ent) = e := rfl
theorem guardE_en (op : BinOp) (w : World) (x y : Operand) (c c' : Array Value) : (eqGuard op 34 x y (.agg c) (.agg c')).run Try.prog w = .ok () w := run_eqGuard_agg _ op 34 x y c c' (by kernel_rfl)
theorem xeq_en {d : Option Tmp} {ty t2 : TypeId} {pos : String} {af : Array Edge} {g : Option (Nat × Bool)} {x y : Operand} {a : Act} {w : World} (hx : IsEv (a.eval x)) (hy : IsEv (a.eval y)) :
    (execOp a.eval { dst := d, op := .binOp .eql 34 x y t2, type := ty, pos := pos, after := af, guard := g }).run Try.prog w = .ok (.value (.bool (evEq (a.eval x) (a.eval y)))) w := by
  obtain ⟨e, h1⟩ := hx
  obtain ⟨f, h2⟩ := hy
  have h := ent_eql w e f
  unfold execOp
  rw [h1, h2, evEq_agg, eta_ent, eta_ent]
  simp only [Sem.run_bind, Sem.run_pure, Result.andThen_ok, h1, h2, guardE_en, h]
theorem xne_en {d : Option Tmp} {ty t2 : TypeId} {pos : String} {af : Array Edge} {g : Option (Nat × Bool)} {x y : Operand} {a : Act} {w : World} (hx : IsEv (a.eval x)) (hy : IsEv (a.eval y)) :
    (execOp a.eval { dst := d, op := .binOp .neq 34 x y t2, type := ty, pos := pos, after := af, guard := g }).run Try.prog w = .ok (.value (.bool (!evEq (a.eval x) (a.eval y)))) w := by
  obtain ⟨e, h1⟩ := hx
  obtain ⟨f, h2⟩ := hy
  have h := ent_neq w e f
  unfold execOp
  rw [h1, h2, evEq_agg, eta_ent, eta_ent]
  simp only [Sem.run_bind, Sem.run_pure, Result.andThen_ok, h1, h2, guardE_en, h]
section
variable {d : Option Tmp} {ty t2 : TypeId} {pos : String} {af : Array Edge} {g : Option (Nat × Bool)} {x y : Operand} {a : Act} {w0 : World} {K : Act → Prop} {KW : Act → World → Prop} {Q : Exit → Act → World → Prop}
theorem quiet_eq9 {o : Oper} {C : World → Prop} {v : Value} (h0 : C w0) (h : ∀ w, C w → (execOp a.eval o).run Try.prog w = .ok (.value v) w) : Oper.quiet Try.prog o a C K = K (a.put o.dst v) := by
  apply propext
  constructor
  · rintro ⟨u, h1, h2⟩
    have := h1 w0 h0
    unfold Oper.quietAt at this
    rw [h w0 h0] at this
    obtain ⟨_, rfl⟩ := this
    exact h2
  · intro hk
    exact ⟨v, fun w hw => by unfold Oper.quietAt; rw [h w hw]; exact ⟨rfl, rfl⟩, hk⟩
theorem qeq_en (hx : IsEv (a.eval x)) (hy : IsEv (a.eval y)) : Oper.quiet Try.prog { dst := d, op := .binOp .eql 34 x y t2, type := ty, pos := pos, after := af, guard := g } a (fun w' => ∃ n, w' = w0.drewN n) K = K (a.put d (.bool (evEq (a.eval x) (a.eval y)))) :=
  quiet_eq9 (w0 := w0) ⟨0, rfl⟩ fun _ _ => xeq_en hx hy
theorem qne_en (hx : IsEv (a.eval x)) (hy : IsEv (a.eval y)) : Oper.quiet Try.prog { dst := d, op := .binOp .neq 34 x y t2, type := ty, pos := pos, after := af, guard := g } a (fun w' => ∃ n, w' = w0.drewN n) K = K (a.put d (.bool (!evEq (a.eval x) (a.eval y)))) :=
  quiet_eq9 (w0 := w0) ⟨0, rfl⟩ fun _ _ => xne_en hx hy
theorem old_eqen (hx : IsEv (a.eval x)) (hy : IsEv (a.eval y)) : Oper.quiet Try.prog { dst := d, op := .binOp .eql 34 x y t2, type := ty, pos := pos, after := af, guard := g } a (OldC w0) K = K (a.put d (.bool (evEq (a.eval x) (a.eval y)))) :=
  quiet_eq9 (OldC.self w0) fun _ _ => xeq_en hx hy
theorem old_neen (hx : IsEv (a.eval x)) (hy : IsEv (a.eval y)) : Oper.quiet Try.prog { dst := d, op := .binOp .neq 34 x y t2, type := ty, pos := pos, after := af, guard := g } a (OldC w0) K = K (a.put d (.bool (!evEq (a.eval x) (a.eval y)))) :=
  quiet_eq9 (OldC.self w0) fun _ _ => xne_en hx hy
theorem eqw_en (hx : IsEv (a.eval x)) (hy : IsEv (a.eval y)) : Oper.wp Try.prog { dst := d, op := .binOp .eql 34 x y t2, type := ty, pos := pos, after := af, guard := g } a w0 KW Q = KW (a.put d (.bool (evEq (a.eval x) (a.eval y)))) w0 := by
  unfold Oper.wp
  rw [xeq_en hx hy]
  rfl
theorem new_en (hx : IsEv (a.eval x)) (hy : IsEv (a.eval y)) : Oper.wp Try.prog { dst := d, op := .binOp .neq 34 x y t2, type := ty, pos := pos, after := af, guard := g } a w0 KW Q = KW (a.put d (.bool (!evEq (a.eval x) (a.eval y)))) w0 := by
  unfold Oper.wp
  rw [xne_en hx hy]
  rfl
end
end Go.Proofs.Ytkannambildnoaa

namespace Go.Proofs.Ytkannambildnoaa
open Go.RowKit

/-- An entry lies there; it. -/
def IsE3 (w : World) : Value → Prop
  | .pointer (some ⟨b, o, none⟩) => (∃ p, w.cell? ⟨b, o, none⟩ = some (.string p)) ∧ (∃ k, w.cell? ⟨b, o + 1, none⟩ = some (.int .i64 k)) ∧ ∃ d, w.cell? ⟨b, o + 2, none⟩ = some (.string d)
  | _ => False
def e3V (w : World) : Value → Value
  | .pointer (some ⟨b, o, none⟩) => .agg #[(w.cell? ⟨b, o, none⟩).getD undef, (w.cell? ⟨b, o + 1, none⟩).getD undef, (w.cell? ⟨b, o + 2, none⟩).getD undef]
  | _ => undef
theorem isE3_ptr (w : World) (b o : Nat) : IsE3 w (.pointer (some ⟨b, o, none⟩)) = ((∃ p, w.cell? ⟨b, o, none⟩ = some (.string p)) ∧ (∃ k, w.cell? ⟨b, o + 1, none⟩ = some (.int .i64 k)) ∧ ∃ d, w.cell? ⟨b, o + 2, none⟩ = some (.string d)) := rfl
theorem e3V_ptr (w : World) (b o : Nat) : e3V w (.pointer (some ⟨b, o, none⟩)) = .agg #[(w.cell? ⟨b, o, none⟩).getD undef, (w.cell? ⟨b, o + 1, none⟩).getD undef, (w.cell? ⟨b, o + 2, none⟩).getD undef] := rfl
theorem ld_e3 {w : World} {b o : Nat} {e : Ent} (h : EnCells w b o e) : (Instr.loadAt 34 (.pointer (some ⟨b, o, none⟩))).run Try.prog w = .ok (enV e) w := by
  refine (fun hr : w.rangeAt b o (enc e) => run_loadAt_mid w b o 34 _ _ hr Try.underlying34 rfl (by rw [enSize]; rfl)) ?_
  intro j v hv
  match j, hv with
  | 0, hv => obtain rfl : .string e.1 = v := by simpa using hv
             exact h.c0
  | 1, hv => obtain rfl : .int .i64 e.2.1 = v := by simpa using hv
             exact h.c1
  | 2, hv => obtain rfl : .string e.2.2 = v := by simpa using hv
             exact h.c2
theorem old_lde3 {d : Option Tmp} {ty : TypeId} {pos : String} {af : Array Edge} {g : Option (Nat × Bool)} {x : Operand} {a : Act} {w0 : World} {K : Act → Prop} (h : IsE3 w0 (a.eval x)) :
    Oper.quiet Try.prog { dst := d, op := .load 34 x, type := ty, pos := pos, after := af, guard := g } a (OldC w0) K = K (a.put d (e3V w0 (a.eval x))) := by
  refine old_eq fun w hw => ?_
  have hl : (Instr.loadAt 34 (a.eval x)).run Try.prog w = .ok (e3V w0 (a.eval x)) w := by
    match a.eval x, h with
    | .pointer (some ⟨b, o, none⟩), ⟨⟨p, hp⟩, ⟨k, hk⟩, ⟨d, hd⟩⟩ =>
      rw [e3V_ptr, hp, hk, hd]
      have hlt := World.block_lt_of_cell? w0 _ hp
      exact ld_e3 (e := (p, k, d)) ⟨(Below.cell hw (p := ⟨b, o, none⟩) hlt).trans hp, (Below.cell hw (p := ⟨b, o + 1, none⟩) hlt).trans hk, (Below.cell hw (p := ⟨b, o + 2, none⟩) hlt).trans hd⟩
  unfold execOp
  simp only [Sem.run_bind, Sem.run_pure, Result.andThen_ok, hl]
end Go.Proofs.Ytkannambildnoaa

namespace Go.Proofs.Ytkannambildnoaa
open Go.RowKit

theorem Row.at9 {w w' : World} {a : Option Addr} {cap : Nat} {ns : List ByteArray} (h : Row w a cap ns) (hb : Below w.heap.size w w') {k : Nat} (hk : k < ns.length) : ∃ b off, a = some ⟨b, off, none⟩ ∧ w'.cell? ⟨b, off + k, none⟩ = some (.string ns[k]) := by
  rcases h.2 with h0 | ⟨b, off, rfl, hlt, hc⟩
  · rw [h0] at hk; simp at hk
  · exact ⟨b, off, rfl, (hb.cell (p := ⟨b, off + k, none⟩) hlt).trans (hc k ns[k] (List.getElem?_eq_getElem hk))⟩
theorem lists_take (ns : List ByteArray) (k : Nat) (h : k < ns.length) : jn (lists (ns.take (k + 1))) = jn (lists (ns.take k)) ++ (47 :: ns[k].data.toList) := by
  rw [List.take_add_one, List.getElem?_eq_getElem h, lists_append, jn_append]
  simp [lists, jn]
set_option maxRecDepth 10000 in
set_option maxHeartbeats 1000000 in
theorem refJoin9 (ns : List ByteArray) (a : Option Addr) (cap : Nat) (w : World) (h : Row w a cap ns) (h6 : ns.length ≤ 6) (h8 : ∀ x ∈ ns, x.size ≤ 8) : Calls Try.prog 43 #[.slice a ns.length cap] w fun e w' => e = .returned (.string (bs (pth (lists ns)))) ∧ w = w' := by
  have HE := Lib.hid h
  have H6 := Lib.hid h6
  have H8 := Lib.hid h8
  clear h h6 h8
  go_enter Try.func43, Try.ntmps43
  go_wp2
  go_loopg [3, 4] ns.length (fun g s i wx => ∃ (k : Nat) (t : ByteArray), s = .string t ∧ i = .int .i64 (k : Int) ∧ k + g = ns.length ∧ Hid (t.data.toList = jn (lists (ns.take k)) ∧ t.size ≤ 9 * k) ∧ w = wx)
  case atStart => exact ⟨0, ⟨#[]⟩, rfl, rfl, by omega, ⟨by simp [lists, jn], Nat.le_refl 0⟩, rfl⟩
  case round =>
    obtain ⟨k, t, rfl, rfl, hk, HI, rfl⟩ := hrel
    by_cases hlt : k < ns.length
    · have hlt' : (k : Int) < (ns.length : Int) := by omega
      obtain ⟨b, off, rfl, hc⟩ := HE.out.at9 (Below.refl _ _) hlt
      have HT := Lib.hid (lists_take ns k hlt)
      have HS := Lib.hid (H8.out _ (List.getElem_mem hlt))
      obtain ⟨x, hx⟩ : ∃ x, ns[k] = x := ⟨_, rfl⟩
      rw [hx] at hc HT HS
      clear hx
      have z1 : ¬ 9223372036854775807 < t.size + 1 := by have := HI.out.2; have := H6.out; omega
      have z2 : ¬ 9223372036854775807 < t.size + 1 + x.size := by have := HI.out.2; have := H6.out; have := HS.out; omega
      have hw : IntKind.i64.wrap ((k : Int) + 1) = (k : Int) + 1 := IntWalk.i64_in _ (by have := H6.out; omega)
      go_wp2
      go_roundg (gk - 1)
      case measure => omega
      case rel =>
        refine ⟨k + 1, _, rfl, by simp, by omega, ⟨?_, ?_⟩, rfl⟩
        · rw [HT.out, ← HI.out.1]
          simp [ByteArray.data_append]
        · simp only [ByteArray.size_append]
          have := HI.out.2
          have := HS.out
          have : (⟨#[47]⟩ : ByteArray).size = 1 := rfl
          omega
    · have hlt' : ¬ (k : Int) < (ns.length : Int) := by omega
      have HT := Lib.hid (show t.data.toList = jn (lists ns) by
        rw [HI.out.1, List.take_of_length_le (by omega)])
      by_cases h0 : ns = []
      · have hE : t = ⟨#[]⟩ := by
          apply ba_ext
          rw [HT.out, h0]
          rfl
        subst hE
        have HV := Lib.hid (show bs (pth (lists ns)) = ⟨#[47]⟩ by rw [h0]; rfl)
        clear h0
        go_wp2
        go_ret
        exact ⟨by rw [HV.out]; rfl, rfl⟩
      · have hl0 : lists ns ≠ [] := by simpa [lists] using h0
        obtain ⟨r, hr⟩ := jn_ne hl0
        have hE : t.toList.isEmpty = false := by
          rw [Lib.toList_data, HT.out, hr]
          rfl
        have HV := Lib.hid (show bs (pth (lists ns)) = t by
          apply ba_ext
          rw [bs_list, HT.out, pth, if_neg hl0])
        clear h0 hl0 hr
        go_wp2
        go_ret
        exact ⟨by rw [HV.out]; rfl, rfl⟩
theorem row_init {w : World} {a : Option Addr} {cap : Nat} {ns : List ByteArray} (h : Row w a cap ns) : Row w a cap ns.dropLast := by
  obtain ⟨h1, h2⟩ := h
  refine ⟨by simp; omega, ?_⟩
  rcases h2 with rfl | ⟨b, off, rfl, hlt, hc⟩
  · exact .inl rfl
  · exact .inr ⟨b, off, rfl, hlt, fun j x hx => hc j x (by
      rw [List.getElem?_dropLast] at hx
      split at hx
      · exact hx
      · cases hx)⟩
theorem lists_prts9 (p : ByteArray) : lists (prts p) = pcs p.data.toList := by
  unfold lists prts
  rw [List.map_map]
  conv => rhs; rw [← List.map_id (pcs p.data.toList)]
  apply List.map_congr_left
  intro x _
  exact bs_list x
set_option maxRecDepth 10000 in
set_option maxHeartbeats 1000000 in
theorem refPar9 (p : ByteArray) (hP : isP p.data.toList) (h1 : p.data.toList ≠ [47]) (w : World) : Calls Try.prog 31 #[.string p] w fun e w' => e = .returned (.string (bs (par9 p.data.toList))) ∧ Below w.heap.size w w' := by
  have hz : p.size ≤ 100000 := by have := isP_len hP; rw [← Lib.size_eq] at this; omega
  have HC := Lib.hid (fun X => refSplit_any p hz X)
  have hnn : names p = prts p := names_pos hP
  have hn0 : pcs p.data.toList ≠ [] := mt (pcs_nil hP).1 h1
  have hl : (names p).length = (names p).dropLast.length + 1 := by
    rw [List.length_dropLast, hnn]
    have : 0 < (prts p).length := by unfold prts; rw [List.length_map]; exact List.length_pos_iff.2 hn0
    omega
  have HV := Lib.hid (show bs (pth (lists (names p).dropLast)) = bs (par9 p.data.toList) by
    rw [hnn]
    unfold par9
    rw [← lists_prts9]
    unfold lists
    rw [List.map_dropLast])
  have H8 := Lib.hid (show ∀ x ∈ (names p).dropLast, x.size ≤ 8 from fun x hx => by
    have hx := List.dropLast_subset _ hx
    rw [hnn] at hx
    unfold prts at hx
    obtain ⟨y, hy, rfl⟩ := List.mem_map.1 hx
    rw [bs_size]
    exact nm_len (hP.2.2 y hy))
  have H6 := Lib.hid (names_len p)
  obtain ⟨ns, hns⟩ : ∃ ns, (names p).dropLast = ns := ⟨_, rfl⟩
  obtain ⟨m, hm⟩ : ∃ m, (names p).length = m := ⟨_, rfl⟩
  rw [hns] at HV H8 hl
  rw [hm] at hl H6
  have HNS := Lib.hid hns
  have HM := Lib.hid hm
  have HL := Lib.hid hl
  have hw : IntKind.i64.wrap ((m : Int) - 1) = (ns.length : Int) := by rw [hl]; rw [show ((ns.length + 1 : Nat) : Int) - 1 = (ns.length : Int) by omega]; exact IntWalk.i64_in _ (by have := H6.out; omega)
  have hle : (ns.length : Int) ≤ (m : Int) := by omega
  clear hz hP h1 hnn hn0 hl hns hm
  go_enter Try.func31, Try.ntmps31
  go_wp2_with fail
  refine (HC.out _).mono ?_
  rintro e w1 ⟨a, cap, rfl, hr, hb1⟩
  rw [HM.out]
  have HB := Lib.hid hb1
  have HR := Lib.hid (show Row w1 a cap ns by have := row_init hr; rw [HNS.out] at this; exact this)
  have hcap : m ≤ cap := by have := hr.1; rw [HM.out] at this; exact this
  have hcap' : (ns.length : Int) ≤ (cap : Int) := by omega
  clear hr hb1
  go_wp2_with fail
  refine (refJoin9 ns _ _ _ HR.out (by have := H6.out; have := HL.out; omega) H8.out).mono ?_
  rintro e w2 ⟨rfl, rfl⟩
  go_wp2
  go_ret
  exact ⟨by rw [← HV.out]; rfl, HB.out⟩
end Go.Proofs.Ytkannambildnoaa

namespace Go.Proofs.Ytkannambildnoaa
open Go.RowKit

theorem below_drewX {B : Nat} {a w : World} (h : Below B a w) (q : Nat) : Below B a (w.drewN q) := ⟨h.os, h.tape, h.output, h.size, h.block⟩
theorem less_nil (l : List UInt8) : Op.bytesLess l [] = false := by cases l <;> rfl
theorem less_at {a b : List UInt8} {x y : UInt8} {i : Nat} (ha : a[i]? = some x) (hb : b[i]? = some y) : Op.bytesLess (a.drop i) (b.drop i) = (decide (x < y) || (x == y && Op.bytesLess (a.drop (i + 1)) (b.drop (i + 1)))) := by
  obtain ⟨h1, e1⟩ := List.getElem?_eq_some_iff.1 ha
  obtain ⟨h2, e2⟩ := List.getElem?_eq_some_iff.1 hb
  rw [List.drop_eq_getElem_cons h1, List.drop_eq_getElem_cons h2, e1, e2]
  rfl
theorem less_end {a b : List UInt8} {i : Nat} (h : ¬ (i < a.length ∧ i < b.length)) (ha : i ≤ a.length) (hb : i ≤ b.length) : Op.bytesLess (a.drop i) (b.drop i) = decide (a.length < b.length) := by
  by_cases h2 : i < b.length
  · have h1 : a.drop i = [] := List.drop_eq_nil_iff.2 (by omega)
    rw [h1, List.drop_eq_getElem_cons h2, decide_eq_true (by omega)]
    rfl
  · rw [show b.drop i = [] from List.drop_eq_nil_iff.2 (by omega), less_nil, decide_eq_false (by omega)]
set_option maxRecDepth 10000 in
set_option maxHeartbeats 1000000 in
theorem refLess_any (a b : ByteArray) (ha : a.size ≤ 100000) (hb : b.size ≤ 100000) (w : World) : Calls Try.prog 30 #[.string a, .string b] w fun e w' => e = .returned (.bool (Op.bytesLess a.data.toList b.data.toList)) ∧ Below w.heap.size w w' := by
  obtain ⟨R, hR⟩ : ∃ R, Op.bytesLess a.data.toList b.data.toList = R := ⟨_, rfl⟩
  rw [hR]
  have HR := Lib.hid hR
  have HA := Lib.hid (Lib.size_eq a)
  have HB := Lib.hid (Lib.size_eq b)
  clear hR
  go_enter Try.func30, Try.ntmps30
  go_wp2
  go_loopg [5] (a.size + b.size) (fun g i wx => ∃ j : Nat, i = .int .i64 (j : Int) ∧ j + g = a.size + b.size ∧ j ≤ a.size ∧ j ≤ b.size ∧ Hid (Op.bytesLess (a.data.toList.drop j) (b.data.toList.drop j) = R ∧ Below w.heap.size w wx))
  case atStart => exact ⟨0, rfl, by omega, by omega, by omega, by simpa using HR.out, Below.refl _ _⟩
  case round =>
    obtain ⟨j, rfl, hj, hja, hjb, HI⟩ := hrel
    by_cases h1 : j < a.size
    · have h1' : (j : Int) < (a.size : Int) := by omega
      by_cases h2 : j < b.size
      · have h2' : (j : Int) < (b.size : Int) := by omega
        have hw : IntKind.i64.wrap ((j : Int) + 1) = (j : Int) + 1 := IntWalk.i64_in _ (by omega)
        have HL := Lib.hid (less_at (at_eq a j h1) (at_eq b j h2))
        by_cases he : a[j] = b[j]
        · have hne : ((a[j].toNat : Int) != (b[j].toNat : Int)) = false := by rw [he]; simp
          have HN := Lib.hid (show Op.bytesLess (a.data.toList.drop (j + 1)) (b.data.toList.drop (j + 1)) = R by
            rw [← HI.out.1, HL.out, he]
            simp)
          clear he
          go_wp2
          go_quiet (fail)
          go_wp2
          go_roundg (gk - 1)
          case measure => omega
          case rel => exact ⟨j + 1, by simp, by omega, by omega, by omega, HN.out, below_drewX HI.out.2 _⟩
        · have hne : ((a[j].toNat : Int) != (b[j].toNat : Int)) = true := by
            rw [bne_iff_ne]
            intro e
            exact he (UInt8.toNat_inj.1 (by omega))
          have HV := Lib.hid (show decide (a[j].toNat < b[j].toNat) = R by
            rw [← HI.out.1, HL.out, beq_eq_false_iff_ne.2 he, Bool.false_and, Bool.or_false]
            rw [Bool.eq_iff_iff, decide_eq_true_iff, decide_eq_true_iff, UInt8.lt_iff_toNat_lt])
          clear he
          go_wp2
          go_quiet (fail)
          go_wp2
          go_quiet (fail)
          go_wp2
          go_ret
          exact ⟨by rw [← HV.out]; rfl, below_drewX (below_drewX HI.out.2 _) _⟩
      · have h2' : ¬ (j : Int) < (b.size : Int) := by omega
        have HE := Lib.hid (less_end (a := a.data.toList) (b := b.data.toList) (i := j) (by rw [← HB.out]; omega) (by rw [← HA.out]; omega) (by rw [← HB.out]; omega))
        go_wp2
        go_ret
        exact ⟨by rw [← HI.out.1, HE.out, ← HA.out, ← HB.out]; simp, HI.out.2⟩
    · have h1' : ¬ (j : Int) < (a.size : Int) := by omega
      have HE := Lib.hid (less_end (a := a.data.toList) (b := b.data.toList) (i := j) (by rw [← HA.out]; omega) (by rw [← HA.out]; omega) (by rw [← HB.out]; omega))
      go_wp2
      go_ret
      exact ⟨by rw [← HI.out.1, HE.out, ← HA.out, ← HB.out]; simp, HI.out.2⟩
end Go.Proofs.Ytkannambildnoaa

namespace Go.Proofs.Ytkannambildnoaa
open Go.RowKit

/-- A list of entries of a size that is looked at. -/
def SizeOK (l : List Ent) : Prop := l.length ≤ 70 ∧ ∀ e ∈ l, e.1.size ≤ 100 ∧ e.2.2.size ≤ 600
instance (l : List Ent) : Decidable (SizeOK l) := inferInstanceAs (Decidable (_ ∧ _))
def okE (e : Ent) : Prop := e.1.size ≤ 100 ∧ e.2.2.size ≤ 600
theorem take_get {α : Type} (l : List α) (k : Nat) (h : k < l.length) : l.take (k + 1) = l.take k ++ [l[k]] := by
  rw [List.take_add_one, List.getElem?_eq_getElem h]
  rfl
set_option maxRecDepth 10000 in
set_option maxHeartbeats 1000000 in
theorem size9 (l : List Ent) (a : Option Addr) (cap : Nat) (w : World) (h : Ents w a cap l) : Calls Try.prog 11 #[.slice a l.length cap] w fun e w' => e = .returned (.int .i64 (if SizeOK l then 1 else 0)) ∧ w = w' := by
  obtain ⟨R, hR⟩ : ∃ R : Int, (if SizeOK l then 1 else 0) = R := ⟨_, rfl⟩
  rw [hR]
  have HR := Lib.hid hR
  clear hR
  by_cases h70 : l.length ≤ 70
  · have HE := Lib.hid h
    have HL := Lib.hid h70
    have g70 : ¬ (70 : Int) < (l.length : Int) := by omega
    clear h
    go_enter Try.func11, Try.ntmps11
    go_wp2
    go_loopg [3] l.length (fun g i wx => ∃ k : Nat, i = .int .i64 (k : Int) ∧ k + g = l.length ∧ Hid (∀ e ∈ l.take k, okE e) ∧ w = wx)
    case atStart => exact ⟨0, rfl, by omega, by intro e he; simp at he, rfl⟩
    case round =>
      obtain ⟨k, rfl, hk, HI, rfl⟩ := hrel
      by_cases hlt : k < l.length
      · have hlt' : (k : Int) < (l.length : Int) := by omega
        obtain ⟨b, off, rfl, hb, hc⟩ := HE.out.at (Below.refl _ _) hlt
        have HT := Lib.hid (take_get l k hlt)
        have HM := Lib.hid (List.getElem_mem hlt)
        obtain ⟨x, hx⟩ : ∃ x, l[k] = x := ⟨_, rfl⟩
        rw [hx] at hc HT HM
        have c0 := hc.c0
        have c2 := hc.c2
        clear hc hx hb
        by_cases g1 : x.1.size ≤ 100
        · have g1' : ¬ (100 : Int) < (x.1.size : Int) := by omega
          by_cases g2 : x.2.2.size ≤ 600
          · have g2' : ¬ (600 : Int) < (x.2.2.size : Int) := by omega
            have HX := Lib.hid (show okE x from ⟨g1, g2⟩)
            clear g1 g2
            go_wp2
            go_roundg (gk - 1)
            case measure => omega
            case rel =>
              refine ⟨k + 1, by simp, by omega, ?_, rfl⟩
              intro e he
              rw [HT.out] at he
              rcases List.mem_append.1 he with he | he
              · exact HI.out e he
              · obtain rfl : e = x := by simpa using he
                exact HX.out
          · have g2' : (600 : Int) < (x.2.2.size : Int) := by omega
            have HX := Lib.hid (show R = 0 by rw [← HR.out, if_neg fun h => g2 (h.2 x HM.out).2])
            clear g1 g2
            go_wp2
            go_ret
            exact ⟨by rw [HX.out]; rfl, rfl⟩
        · have g1' : (100 : Int) < (x.1.size : Int) := by omega
          have HX := Lib.hid (show R = 0 by rw [← HR.out, if_neg fun h => g1 (h.2 x HM.out).1])
          clear g1
          go_wp2
          go_ret
          exact ⟨by rw [HX.out]; rfl, rfl⟩
      · have hlt' : ¬ (k : Int) < (l.length : Int) := by omega
        have HX := Lib.hid (show R = 1 by rw [← HR.out, if_pos ⟨HL.out, fun e he => HI.out e (by rw [List.take_of_length_le (by omega)]; exact he)⟩])
        go_wp2
        go_ret
        exact ⟨by rw [HX.out]; rfl, rfl⟩
  · have g70 : (70 : Int) < (l.length : Int) := by omega
    have HX := Lib.hid (show R = 0 by rw [← HR.out, if_neg fun h => h70 h.1])
    clear h h70
    go_enter Try.func11, Try.ntmps11
    go_wp2
    go_ret
    exact ⟨by rw [HX.out]; rfl, rfl⟩
attribute [local go_sem ↓] qne_en qeq_en
attribute [local go_sem] isEv_agg evEq_agg eta_ent
theorem take_eq {α : Type} (l m : List α) (k : Nat) (h : k < l.length) (h2 : k < m.length) : l.take (k + 1) = m.take (k + 1) ↔ l.take k = m.take k ∧ l[k] = m[k] := by
  rw [take_get l k h, take_get m k h2]
  constructor
  · intro e
    obtain ⟨e1, e2⟩ := List.append_inj' e rfl
    exact ⟨e1, by simpa using e2⟩
  · rintro ⟨e1, e2⟩
    rw [e1, e2]
set_option maxRecDepth 10000 in
set_option maxHeartbeats 1000000 in
theorem same9 (l m : List Ent) (a a2 : Option Addr) (cap cap2 : Nat) (w : World) (h : Ents w a cap l) (h2 : Ents w a2 cap2 m) (hz : l.length ≤ maxLen) : Calls Try.prog 16 #[.slice a l.length cap, .slice a2 m.length cap2] w fun e w' => e = .returned (.int .i64 (if l = m then 1 else 0)) ∧ Below w.heap.size w w' := by
  obtain ⟨R, hR⟩ : ∃ R : Int, (if l = m then 1 else 0) = R := ⟨_, rfl⟩
  rw [hR]
  have HR := Lib.hid hR
  clear hR
  by_cases hl : l.length = m.length
  · have HE := Lib.hid h
    have HE2 := Lib.hid h2
    have HL := Lib.hid hl
    have HZ := Lib.hid hz
    have gl : ((l.length : Int) != (m.length : Int)) = false := by rw [hl]; simp
    clear h h2 hl hz
    go_enter Try.func16, Try.ntmps16
    go_wp2
    go_loopg [5] l.length (fun g i wx => ∃ k : Nat, i = .int .i64 (k : Int) ∧ k + g = l.length ∧ Hid (l.take k = m.take k) ∧ Hid (Below w.heap.size w wx))
    case atStart => exact ⟨0, rfl, by omega, by simp [Hid], Below.refl _ _⟩
    case round =>
      obtain ⟨k, rfl, hk, HI, HB⟩ := hrel
      by_cases hlt : k < l.length
      · have hlt' : (k : Int) < (l.length : Int) := by omega
        have hlt2 : (k : Int) < (m.length : Int) := by have := HL.out; omega
        obtain ⟨b, off, rfl, hb, hc⟩ := HE.out.at HB.out hlt
        obtain ⟨b2, off2, rfl, hb2, hc2⟩ := HE2.out.at HB.out (show k < m.length by omega)
        have HT := Lib.hid (take_eq l m k hlt (by omega))
        have hw : IntKind.i64.wrap ((k : Int) + 1) = (k : Int) + 1 := IntWalk.i64_in _ (by have := HZ.out; unfold maxLen at this; omega)
        obtain ⟨x, hx⟩ : ∃ x, l[k] = x := ⟨_, rfl⟩
        obtain ⟨y, hy⟩ : ∃ y, m[k]'(by omega) = y := ⟨_, rfl⟩
        rw [hx] at hc
        rw [hy] at hc2
        have HXY := Lib.hid (And.intro hx hy)
        have c0 := hc.c0
        have c1 := hc.c1
        have c2 := hc.c2
        have d0 := hc2.c0
        have d1 := hc2.c1
        have d2 := hc2.c2
        clear hc hc2 hx hy hb hb2
        by_cases hxy : x = y
        · have gxy : decide (x = y) = true := decide_eq_true hxy
          have HN := Lib.hid (show l.take (k + 1) = m.take (k + 1) from HT.out.2 ⟨HI.out, by rw [HXY.out.1, HXY.out.2]; exact hxy⟩)
          clear hxy
          go_wp2
          go_quiet (fail)
          go_wp2
          go_roundg (gk - 1)
          case measure => omega
          case rel => exact ⟨k + 1, by simp, by omega, HN.out, below_drewX HB.out _⟩
        · have gxy : decide (x = y) = false := decide_eq_false hxy
          have HX := Lib.hid (show R = 0 by
            rw [← HR.out, if_neg fun e => hxy ?_]
            subst e
            exact HXY.out.1.symm.trans HXY.out.2)
          clear hxy
          go_wp2
          go_quiet (fail)
          go_wp2
          go_ret
          exact ⟨by rw [HX.out]; rfl, below_drewX HB.out _⟩
      · have hlt' : ¬ (k : Int) < (l.length : Int) := by omega
        have HX := Lib.hid (show R = 1 by
          have := HI.out
          rw [List.take_of_length_le (by omega), List.take_of_length_le (by have := HL.out; omega)] at this
          rw [← HR.out, if_pos this])
        go_wp2
        go_ret
        exact ⟨by rw [HX.out]; rfl, HB.out⟩
  · have gl : ((l.length : Int) != (m.length : Int)) = true := by rw [bne_iff_ne]; omega
    have HX := Lib.hid (show R = 0 by rw [← HR.out, if_neg fun h => hl (by rw [h])])
    clear h h2 hl hz
    go_enter Try.func16, Try.ntmps16
    go_wp2
    go_ret
    exact ⟨by rw [HX.out]; rfl, Below.refl _ _⟩
end Go.Proofs.Ytkannambildnoaa

namespace Go.Proofs.Ytkannambildnoaa
open Go.RowKit

theorem inD_take (l : List Ent) (e : Ent) (j : Nat) (h : j < l.length) : inD (l.take (j + 1)) e ↔ inD (l.take j) e ∨ (pl l[j] = par9 (pl e) ∧ hd l[j] = true) := by
  rw [take_get l j h]
  unfold inD
  simp only [List.mem_append, List.mem_singleton]
  constructor
  · rintro (h1 | ⟨d, h1 | rfl, h2⟩)
    · exact .inl (.inl h1)
    · exact .inl (.inr ⟨d, h1, h2⟩)
    · exact .inr h2
  · rintro ((h1 | ⟨d, h1, h2⟩) | h2)
    · exact .inl h1
    · exact .inr ⟨d, .inl h1, h2⟩
    · exact .inr ⟨_, .inr rfl, h2⟩
theorem last_take (l : List Ent) (k : Nat) (h : k < l.length) (h0 : 0 < k) : (l.take k).getLast? = some (l[k - 1]'(by omega)) := by
  rw [List.getLast?_eq_getElem?, List.length_take, Nat.min_eq_left (by omega), List.getElem?_take_of_lt (by omega), List.getElem?_eq_getElem]
attribute [local go_sem ↓] old_ldi old_lds old_lde3
attribute [local go_sem] oldC_forall isC1_ptr isS1_ptr c1V_ptr isE3_ptr e3V_ptr
set_option maxRecDepth 10000 in
set_option maxHeartbeats 4000000 in
theorem refRight9 (l : List Ent) (a : Option Addr) (cap : Nat) (w : World) (h : Ents w a cap l) (hl : l.length ≤ 1000) (hz : ∀ e ∈ l, e.1.size ≤ 100000) : Calls Try.prog 18 #[.slice a l.length cap] w fun e w' => e = .returned (.bool (decide (RightL l))) ∧ Below w.heap.size w w' := by
  obtain ⟨R, hR⟩ : ∃ R, decide (RightL l) = R := ⟨_, rfl⟩
  rw [hR]
  have HR := Lib.hid hR
  have HE := Lib.hid h
  have HL := Lib.hid hl
  have HZ := Lib.hid hz
  clear hR h hl hz
  go_enter Try.func18, Try.ntmps18
  go_wp2
  go_loopg [3] l.length (fun g i wx => ∃ k : Nat, i = .int .i64 (k : Int) ∧ k + g = l.length ∧ Hid (RL (l.take k)) ∧ Hid (Below w.heap.size w wx))
  case atStart => exact ⟨0, rfl, by omega, by simpa [Hid] using rl_nil, Below.refl _ _⟩
  case round =>
    obtain ⟨k, rfl, hk, HI, HB⟩ := hrel
    by_cases hlt : k < l.length
    · have hlt' : (k : Int) < (l.length : Int) := by omega
      obtain ⟨b, off, rfl, hb, hc⟩ := HE.out.at HB.out hlt
      have HT := Lib.hid (show l.take (k + 1) = l.take k ++ [l[k]] from take_get l k hlt)
      have HX := Lib.hid (HZ.out _ (List.getElem_mem hlt))
      obtain ⟨x, hx⟩ : ∃ x, l[k] = x := ⟨_, rfl⟩
      rw [hx] at hc HT HX
      have HXK := Lib.hid hx
      have c0 := hc.c0
      have c1 := hc.c1
      have c2 := hc.c2
      have H1 : Hid (∀ w0 w', OldC w0 w' → Calls Try.prog 29 #[enV x] w' fun e w'' => e = .returned (.bool (rE x)) ∧ OldC w0 w'') := fun w0 w' hw' => by
        refine (refRight_any x.1 x.2.1 x.2.2 HX.out w').mono ?_
        rintro e w'' ⟨rfl, hb⟩
        exact ⟨rfl, hw'.then hb⟩
      clear hc hx hb
      obtain ⟨v, hv⟩ : ∃ v, rE x = v := ⟨_, rfl⟩
      rw [hv] at H1
      have HRV := Lib.hid hv
      clear hv
      have bad : ∀ (P : Prop), (RL (l.take (k + 1)) → False) → R = false := fun _ h => by
        rw [← HR.out, decide_eq_false]
        exact fun h2 => h (rl_take h2.2 _)
      have HBad := Lib.hid bad
      clear bad
      cases v with
      | false =>
        have HV := Lib.hid (show R = false from HBad.out True fun h => by
          rw [HT.out, rl_snoc] at h
          have := h.2.1
          rw [HRV.out] at this
          cases this)
        go_wp2_with fail
        refine wp_region_old (by kernel_rfl) (by kernel_rfl) ?_
        repeat (go_big_quiet_step ((first | (intro hw; with_reducible exact H1.out _ _ hw))))
        refine wpQuiet_nil ?_
        intro w9 hw9
        have HB9 := Lib.hid (show Below w.heap.size w w9 from HB.out.trans (Below.mono hw9 HB.out.size))
        clear hw9
        go_wp2
        go_ret
        exact ⟨by rw [HV.out]; rfl, HB9.out⟩
      | true =>
        have H3 : Hid (∀ w0 w', OldC w0 w' → Calls Try.prog 31 #[.string x.1] w' fun e w'' => e = .returned (.string (bs (par9 (pl x)))) ∧ OldC w0 w'') := fun w0 w' hw' => by
          obtain ⟨p1, p2⟩ := rE_isP HRV.out
          refine (refPar9 x.1 p1 p2 w').mono ?_
          rintro e w'' ⟨rfl, hb⟩
          exact ⟨rfl, hw'.then hb⟩
        obtain ⟨q, hq⟩ : ∃ q, bs (par9 (pl x)) = q := ⟨_, rfl⟩
        rw [hq] at H3
        have HQ := Lib.hid (show q.data.toList = par9 (pl x) by rw [← hq, bs_list])
        clear hq
        have way : (∃ k' y, Hid (k' + 1 = k) ∧ IntKind.i64.wrap ((k : Int) - 1) = (k' : Int) ∧ decide (0 < k) = true ∧ (k' : Int) < (l.length : Int) ∧ EnCells wr b (off + k' * 3) y ∧ Hid (∀ a, (l.take k).getLast? = some a ↔ a = y) ∧ Hid (y.1.size ≤ 100000)) ∨ (decide (0 < k) = false ∧ Hid ((l.take k).getLast? = none)) := by
          by_cases h0 : 0 < k
          · left
            have hk1 : k - 1 < l.length := by omega
            obtain ⟨b', off', e1, _, hc'⟩ := HE.out.at HB.out hk1
            cases e1
            refine ⟨k - 1, l[k - 1], by show k - 1 + 1 = k; omega, ?_, decide_eq_true h0, by omega, hc', fun a => ?_, HZ.out _ (List.getElem_mem hk1)⟩
            · rw [show (k : Int) - 1 = ((k - 1 : Nat) : Int) by omega]
              exact IntWalk.i64_in _ (by have := HL.out; omega)
            · rw [last_take l k hlt h0]
              simp [eq_comm]
          · right
            have : k = 0 := by omega
            subst this
            exact ⟨rfl, by simp [Hid]⟩
        rcases way with ⟨k', y, HK1, hwk, h0, hk'l, hcy, HLA, HYZ⟩ | ⟨h0, HLA⟩
        · have d0 := hcy.c0
          have H2 : Hid (∀ w0 w', OldC w0 w' → Calls Try.prog 30 #[.string y.1, .string x.1] w' fun e w'' => e = .returned (.bool (lt8 (pl y) (pl x))) ∧ OldC w0 w'') := fun w0 w' hw' => by
            refine (refLess_any y.1 x.1 HYZ.out HX.out w').mono ?_
            rintro e w'' ⟨rfl, hb⟩
            exact ⟨rfl, hw'.then hb⟩
          obtain ⟨v2, hv2⟩ : ∃ v2, lt8 (pl y) (pl x) = v2 := ⟨_, rfl⟩
          rw [hv2] at H2
          have HRV2 := Lib.hid hv2
          clear hv2 hcy
          cases v2 with
          | false =>
            have HV := Lib.hid (show R = false from HBad.out True fun h => by
              rw [HT.out, rl_snoc] at h
              have := h.2.2.1 y ((HLA.out y).2 rfl)
              rw [HRV2.out] at this
              cases this)
            go_wp2_with fail
            refine wp_region_old (by kernel_rfl) (by kernel_rfl) ?_
            repeat (go_big_quiet_step ((first | (intro hw; with_reducible exact H1.out _ _ hw) | (intro hw; with_reducible exact H2.out _ _ hw))))
            refine wpQuiet_nil ?_
            intro w9 hw9
            have HB9 := Lib.hid (show Below w.heap.size w w9 from HB.out.trans (Below.mono hw9 HB.out.size))
            clear hw9
            go_wp2
            go_ret
            exact ⟨by rw [HV.out]; rfl, HB9.out⟩
          | true =>
            have HA := Lib.hid (show ∀ a, (l.take k).getLast? = some a → lt8 (pl a) (pl x) = true from fun a ha => by
              rw [HLA.out] at ha
              rw [ha]
              exact HRV2.out)
            go_wp2_with fail
            refine wp_region_old (by kernel_rfl) (by kernel_rfl) ?_
            repeat (go_big_quiet_step ((first | (intro hw; with_reducible exact H1.out _ _ hw) | (intro hw; with_reducible exact H2.out _ _ hw))))
            refine wpQuiet_nil ?_
            intro w9 hw9
            have HB9 := Lib.hid (show Below w.heap.size w w9 from HB.out.trans (Below.mono hw9 HB.out.size))
            have hcx := HE.out.at HB9.out hlt
            rw [HXK.out] at hcx
            obtain ⟨b', off', e1, _, hcx⟩ := hcx
            cases e1
            have x0 := hcx.c0
            clear hw9 hcx c0 c1 c2
            go_wp2_with fail
            refine (H3.out _ _ (OldC.self _)).mono ?_
            rintro e w3 ⟨rfl, hb3⟩
            have HB3 := Lib.hid (show Below w.heap.size w w3 from HB9.out.trans (Below.mono hb3 HB9.out.size))
            have HF0 := Lib.hid (show (q.toList == [47]) = decide (inD (l.take 0) x) by
              rw [eq_slash, HQ.out]
              unfold inD
              simp)
            clear hb3 x0
            go_wp2
            go_loopg [4, 5] k (fun g f i wx => ∃ (j : Nat) (z : Bool), f = .bool z ∧ i = .int .i64 (j : Int) ∧ j + g = k ∧ Hid (z = decide (inD (l.take j) x)) ∧ Hid (Below w.heap.size w wx))
            case atStart => exact ⟨0, _, rfl, rfl, by omega, HF0.out, HB3.out⟩
            case round =>
              obtain ⟨j, z, rfl, rfl, hj, HF, HBJ⟩ := hrel
              by_cases hjk : j < k
              · have hjk' : (j : Int) < (k : Int) := by omega
                have hjl : j < l.length := by omega
                have hjl' : (j : Int) < (l.length : Int) := by omega
                have hwj : IntKind.i64.wrap ((j : Int) + 1) = (j : Int) + 1 := IntWalk.i64_in _ (by have := HL.out; omega)
                have HIN := Lib.hid (inD_take l x j hjl)
                have hcx := HE.out.at HBJ.out hlt
                have hcy := HE.out.at HBJ.out hjl
                rw [HXK.out] at hcx
                obtain ⟨u, hu⟩ : ∃ u, l[j] = u := ⟨_, rfl⟩
                rw [hu] at hcy HIN
                obtain ⟨b', off', e1, _, hcx⟩ := hcx
                cases e1
                obtain ⟨b', off', e1, _, hcy⟩ := hcy
                cases e1
                have x0 := hcx.c0
                have u0 := hcy.c0
                have u1 := hcy.c1
                clear hcx hcy hu
                have ways : ∃ z', Hid (z' = decide (inD (l.take (j + 1)) x)) ∧ ((z = true ∧ z' = true) ∨ (z = false ∧ (u.1.toList == q.toList) = false ∧ z' = false) ∨ (z = false ∧ (u.1.toList == q.toList) = true ∧ (u.2.1 == 2) = true ∧ z' = true) ∨ (z = false ∧ (u.1.toList == q.toList) = true ∧ (u.2.1 == 2) = false ∧ (u.2.1 == 4) = true ∧ z' = true) ∨ (z = false ∧ (u.1.toList == q.toList) = true ∧ (u.2.1 == 2) = false ∧ (u.2.1 == 4) = false ∧ z' = false)) := by
                  have hq2 : (u.1.toList == q.toList) = decide (pl u = par9 (pl x)) := by rw [Lib.toList_data, Lib.toList_data, HQ.out, Bool.eq_iff_iff, beq_iff_eq, decide_eq_true_iff]
                  have hz2 : decide (inD (l.take (j + 1)) x) = (z || (decide (pl u = par9 (pl x)) && hd u)) := by
                    rw [Bool.eq_iff_iff, decide_eq_true_iff, HIN.out, Bool.or_eq_true, HF.out, decide_eq_true_iff, Bool.and_eq_true, decide_eq_true_iff]
                  refine ⟨_, rfl, ?_⟩
                  rw [hz2, hq2]
                  unfold hd
                  cases z with
                  | true => exact .inl ⟨rfl, rfl⟩
                  | false =>
                    cases decide (pl u = par9 (pl x)) with
                    | false => exact .inr (.inl ⟨rfl, rfl, rfl⟩)
                    | true =>
                      cases (u.2.1 == 2) with
                      | true => exact .inr (.inr (.inl ⟨rfl, rfl, rfl, rfl⟩))
                      | false =>
                        cases (u.2.1 == 4) with
                        | true => exact .inr (.inr (.inr (.inl ⟨rfl, rfl, rfl, rfl, rfl⟩)))
                        | false => exact .inr (.inr (.inr (.inr ⟨rfl, rfl, rfl, rfl, rfl⟩)))
                obtain ⟨z', HZ', ways⟩ := ways
                clear HIN HF
                rcases ways with ⟨rfl, rfl⟩ | ⟨rfl, s1, rfl⟩ | ⟨rfl, s1, s2, rfl⟩ | ⟨rfl, s1, s2, s3, rfl⟩ | ⟨rfl, s1, s2, s3, rfl⟩
                all_goals
                  go_wp2_with fail
                  refine wp_region_old (by kernel_rfl) (by kernel_rfl) ?_
                  repeat (go_big_quiet_step ((first | (intro hw; with_reducible exact H3.out _ _ hw))))
                  refine wpQuiet_nil ?_
                  intro w8 hw8
                  have HB8 := Lib.hid (show Below w.heap.size w w8 from HBJ.out.trans (Below.mono hw8 HBJ.out.size))
                  clear hw8
                  go_wp2
                  go_roundg (k - (j + 1))
                  case measure => omega
                  case rel => exact ⟨j + 1, _, rfl, by simp, by omega, HZ'.out, HB8.out⟩
              · have hjk' : ¬ (j : Int) < (k : Int) := by omega
                have e : j = k := by omega
                subst e
                cases z with
                | true =>
                  have HN := Lib.hid (show RL (l.take (j + 1)) by
                    rw [HT.out, rl_snoc]
                    exact ⟨HI.out, HRV.out, HA.out, of_decide_eq_true HF.out.symm⟩)
                  have hwk2 : IntKind.i64.wrap ((j : Int) + 1) = (j : Int) + 1 := IntWalk.i64_in _ (by have := HL.out; omega)
                  go_wp2
                  go_roundg (l.length - (j + 1))
                  case measure => omega
                  case rel => exact ⟨j + 1, by simp, by omega, HN.out, HBJ.out⟩
                | false =>
                  have HV := Lib.hid (show R = false from HBad.out True fun h => by
                    rw [HT.out, rl_snoc] at h
                    exact of_decide_eq_false HF.out.symm h.2.2.2)
                  go_wp2
                  go_ret
                  exact ⟨by rw [HV.out]; rfl, HBJ.out⟩
        · have HA := Lib.hid (show ∀ a, (l.take k).getLast? = some a → lt8 (pl a) (pl x) = true from fun a ha => by
            rw [HLA.out] at ha
            cases ha)
          go_wp2_with fail
          refine wp_region_old (by kernel_rfl) (by kernel_rfl) ?_
          repeat (go_big_quiet_step ((first | (intro hw; with_reducible exact H1.out _ _ hw))))
          refine wpQuiet_nil ?_
          intro w9 hw9
          have HB9 := Lib.hid (show Below w.heap.size w w9 from HB.out.trans (Below.mono hw9 HB.out.size))
          have hcx := HE.out.at HB9.out hlt
          rw [HXK.out] at hcx
          obtain ⟨b', off', e1, _, hcx⟩ := hcx
          cases e1
          have x0 := hcx.c0
          clear hw9 hcx c0 c1 c2
          go_wp2_with fail
          refine (H3.out _ _ (OldC.self _)).mono ?_
          rintro e w3 ⟨rfl, hb3⟩
          have HB3 := Lib.hid (show Below w.heap.size w w3 from HB9.out.trans (Below.mono hb3 HB9.out.size))
          have HF0 := Lib.hid (show (q.toList == [47]) = decide (inD (l.take 0) x) by
            rw [eq_slash, HQ.out]
            unfold inD
            simp)
          clear hb3 x0
          go_wp2
          go_loopg [4, 5] k (fun g f i wx => ∃ (j : Nat) (z : Bool), f = .bool z ∧ i = .int .i64 (j : Int) ∧ j + g = k ∧ Hid (z = decide (inD (l.take j) x)) ∧ Hid (Below w.heap.size w wx))
          case atStart => exact ⟨0, _, rfl, rfl, by omega, HF0.out, HB3.out⟩
          case round =>
            obtain ⟨j, z, rfl, rfl, hj, HF, HBJ⟩ := hrel
            by_cases hjk : j < k
            · have hjk' : (j : Int) < (k : Int) := by omega
              have hjl : j < l.length := by omega
              have hjl' : (j : Int) < (l.length : Int) := by omega
              have hwj : IntKind.i64.wrap ((j : Int) + 1) = (j : Int) + 1 := IntWalk.i64_in _ (by have := HL.out; omega)
              have HIN := Lib.hid (inD_take l x j hjl)
              have hcx := HE.out.at HBJ.out hlt
              have hcy := HE.out.at HBJ.out hjl
              rw [HXK.out] at hcx
              obtain ⟨u, hu⟩ : ∃ u, l[j] = u := ⟨_, rfl⟩
              rw [hu] at hcy HIN
              obtain ⟨b', off', e1, _, hcx⟩ := hcx
              cases e1
              obtain ⟨b', off', e1, _, hcy⟩ := hcy
              cases e1
              have x0 := hcx.c0
              have u0 := hcy.c0
              have u1 := hcy.c1
              clear hcx hcy hu
              have ways : ∃ z', Hid (z' = decide (inD (l.take (j + 1)) x)) ∧ ((z = true ∧ z' = true) ∨ (z = false ∧ (u.1.toList == q.toList) = false ∧ z' = false) ∨ (z = false ∧ (u.1.toList == q.toList) = true ∧ (u.2.1 == 2) = true ∧ z' = true) ∨ (z = false ∧ (u.1.toList == q.toList) = true ∧ (u.2.1 == 2) = false ∧ (u.2.1 == 4) = true ∧ z' = true) ∨ (z = false ∧ (u.1.toList == q.toList) = true ∧ (u.2.1 == 2) = false ∧ (u.2.1 == 4) = false ∧ z' = false)) := by
                have hq2 : (u.1.toList == q.toList) = decide (pl u = par9 (pl x)) := by rw [Lib.toList_data, Lib.toList_data, HQ.out, Bool.eq_iff_iff, beq_iff_eq, decide_eq_true_iff]
                have hz2 : decide (inD (l.take (j + 1)) x) = (z || (decide (pl u = par9 (pl x)) && hd u)) := by
                  rw [Bool.eq_iff_iff, decide_eq_true_iff, HIN.out, Bool.or_eq_true, HF.out, decide_eq_true_iff, Bool.and_eq_true, decide_eq_true_iff]
                refine ⟨_, rfl, ?_⟩
                rw [hz2, hq2]
                unfold hd
                cases z with
                | true => exact .inl ⟨rfl, rfl⟩
                | false =>
                  cases decide (pl u = par9 (pl x)) with
                  | false => exact .inr (.inl ⟨rfl, rfl, rfl⟩)
                  | true =>
                    cases (u.2.1 == 2) with
                    | true => exact .inr (.inr (.inl ⟨rfl, rfl, rfl, rfl⟩))
                    | false =>
                      cases (u.2.1 == 4) with
                      | true => exact .inr (.inr (.inr (.inl ⟨rfl, rfl, rfl, rfl, rfl⟩)))
                      | false => exact .inr (.inr (.inr (.inr ⟨rfl, rfl, rfl, rfl, rfl⟩)))
              obtain ⟨z', HZ', ways⟩ := ways
              clear HIN HF
              rcases ways with ⟨rfl, rfl⟩ | ⟨rfl, s1, rfl⟩ | ⟨rfl, s1, s2, rfl⟩ | ⟨rfl, s1, s2, s3, rfl⟩ | ⟨rfl, s1, s2, s3, rfl⟩
              all_goals
                go_wp2_with fail
                refine wp_region_old (by kernel_rfl) (by kernel_rfl) ?_
                repeat (go_big_quiet_step ((first | (intro hw; with_reducible exact H3.out _ _ hw))))
                refine wpQuiet_nil ?_
                intro w8 hw8
                have HB8 := Lib.hid (show Below w.heap.size w w8 from HBJ.out.trans (Below.mono hw8 HBJ.out.size))
                clear hw8
                go_wp2
                go_roundg (k - (j + 1))
                case measure => omega
                case rel => exact ⟨j + 1, _, rfl, by simp, by omega, HZ'.out, HB8.out⟩
            · have hjk' : ¬ (j : Int) < (k : Int) := by omega
              have e : j = k := by omega
              subst e
              cases z with
              | true =>
                have HN := Lib.hid (show RL (l.take (j + 1)) by
                  rw [HT.out, rl_snoc]
                  exact ⟨HI.out, HRV.out, HA.out, of_decide_eq_true HF.out.symm⟩)
                have hwk2 : IntKind.i64.wrap ((j : Int) + 1) = (j : Int) + 1 := IntWalk.i64_in _ (by have := HL.out; omega)
                go_wp2
                go_roundg (l.length - (j + 1))
                case measure => omega
                case rel => exact ⟨j + 1, by simp, by omega, HN.out, HBJ.out⟩
              | false =>
                have HV := Lib.hid (show R = false from HBad.out True fun h => by
                  rw [HT.out, rl_snoc] at h
                  exact of_decide_eq_false HF.out.symm h.2.2.2)
                go_wp2
                go_ret
                exact ⟨by rw [HV.out]; rfl, HBJ.out⟩
    · have hlt' : ¬ (k : Int) < (l.length : Int) := by omega
      have HV := Lib.hid (show R = decide (l.length ≤ 64) by
        have := HI.out
        rw [List.take_of_length_le (by omega)] at this
        rw [← HR.out]
        unfold RightL
        simp [this])
      go_wp2
      go_ret
      exact ⟨by rw [HV.out]; first | rfl | (simp; done) | (simp; omega), HB.out⟩
end Go.Proofs.Ytkannambildnoaa

namespace Go.Proofs.Ytkannambildnoaa
open Go.RowKit

theorem tr_take {l : List Ent} (h : TR l) (n : Nat) : TR (l.take n) := ⟨rl_take h.1 n, fun e he => h.2 e (List.mem_of_mem_take he)⟩
theorem tr_snoc10 {l : List Ent} {e : Ent} : TR (l ++ [e]) ↔ TR l ∧ rE e = true ∧ e.2.1 ≤ 2 ∧ (∀ a, l.getLast? = some a → lt8 (pl a) (pl e) = true) ∧ inD l e := by
  unfold TR
  rw [rl_snoc]
  constructor
  · rintro ⟨⟨h1, h2, h3, h4⟩, h5⟩
    exact ⟨⟨h1, fun x hx => h5 x (by simp [hx])⟩, h2, h5 e (by simp), h3, h4⟩
  · rintro ⟨⟨h1, h2⟩, h3, h4, h5, h6⟩
    refine ⟨⟨h1, h3, h5, h6⟩, fun x hx => ?_⟩
    rcases List.mem_append.1 hx with h | h
    · exact h2 x h
    · obtain rfl : x = e := by simpa using h
      exact h4
theorem hd_tree {e : Ent} (h : e.2.1 ≤ 2) : hd e = (e.2.1 == 2) := by
  unfold hd
  rw [show (e.2.1 == 4) = false by rw [beq_eq_false_iff_ne]; omega, Bool.or_false]
attribute [local go_sem ↓] old_ldi old_lds old_lde3
attribute [local go_sem] oldC_forall isC1_ptr isS1_ptr c1V_ptr isE3_ptr e3V_ptr
set_option maxRecDepth 10000 in
set_option maxHeartbeats 4000000 in
theorem refTree10 (l : List Ent) (a : Option Addr) (cap : Nat) (w : World) (h : Ents w a cap l) (hl : l.length ≤ 2000) (hz : ∀ e ∈ l, e.1.size ≤ 100000) : Calls Try.prog 17 #[.slice a l.length cap] w fun e w' => e = .returned (.bool (decide (TreeL l))) ∧ Below w.heap.size w w' := by
  obtain ⟨R, hR⟩ : ∃ R, decide (TreeL l) = R := ⟨_, rfl⟩
  rw [hR]
  have HR := Lib.hid hR
  have HE := Lib.hid h
  have HL := Lib.hid hl
  have HZ := Lib.hid hz
  clear hR h hl hz
  go_enter Try.func17, Try.ntmps17
  go_wp2
  go_loopg [3] l.length (fun g i wx => ∃ k : Nat, i = .int .i64 (k : Int) ∧ k + g = l.length ∧ Hid (TR (l.take k)) ∧ Hid (Below w.heap.size w wx))
  case atStart => exact ⟨0, rfl, by omega, by simpa [Hid] using tr_nil, Below.refl _ _⟩
  case round =>
    obtain ⟨k, rfl, hk, HI, HB⟩ := hrel
    by_cases hlt : k < l.length
    · have hlt' : (k : Int) < (l.length : Int) := by omega
      obtain ⟨b, off, rfl, hb, hc⟩ := HE.out.at HB.out hlt
      have HT := Lib.hid (show l.take (k + 1) = l.take k ++ [l[k]] from take_get l k hlt)
      have HX := Lib.hid (HZ.out _ (List.getElem_mem hlt))
      obtain ⟨x, hx⟩ : ∃ x, l[k] = x := ⟨_, rfl⟩
      rw [hx] at hc HT HX
      have HXK := Lib.hid hx
      have c0 := hc.c0
      have c1 := hc.c1
      have c2 := hc.c2
      have H1 : Hid (∀ w0 w', OldC w0 w' → Calls Try.prog 29 #[enV x] w' fun e w'' => e = .returned (.bool (rE x)) ∧ OldC w0 w'') := fun w0 w' hw' => by
        refine (refRight_any x.1 x.2.1 x.2.2 HX.out w').mono ?_
        rintro e w'' ⟨rfl, hb⟩
        exact ⟨rfl, hw'.then hb⟩
      clear hc hx hb
      obtain ⟨v, hv⟩ : ∃ v, rE x = v := ⟨_, rfl⟩
      rw [hv] at H1
      have HRV := Lib.hid hv
      clear hv
      have bad : ∀ (P : Prop), (TR (l.take (k + 1)) → False) → R = false := fun _ h => by
        rw [← HR.out, decide_eq_false]
        exact fun h2 => h (tr_take h2.2 _)
      have HBad := Lib.hid bad
      clear bad
      cases v with
      | false =>
        have HV := Lib.hid (show R = false from HBad.out True fun h => by
          rw [HT.out, tr_snoc10] at h
          have := h.2.1
          rw [HRV.out] at this
          cases this)
        go_wp2_with fail
        refine wp_region_old (by kernel_rfl) (by kernel_rfl) ?_
        repeat (go_big_quiet_step ((first | (intro hw; with_reducible exact H1.out _ _ hw))))
        refine wpQuiet_nil ?_
        intro w9 hw9
        have HB9 := Lib.hid (show Below w.heap.size w w9 from HB.out.trans (Below.mono hw9 HB.out.size))
        clear hw9
        go_wp2
        go_ret
        exact ⟨by rw [HV.out]; rfl, HB9.out⟩
      | true =>
        by_cases hk2 : ¬ x.2.1 ≤ 2
        · have g2 : decide ((2 : Int) < x.2.1) = true := decide_eq_true (by omega)
          have HV := Lib.hid (show R = false from HBad.out True fun h => by
            rw [HT.out, tr_snoc10] at h
            exact hk2 h.2.2.1)
          clear hk2
          go_wp2_with fail
          refine wp_region_old (by kernel_rfl) (by kernel_rfl) ?_
          repeat (go_big_quiet_step ((first | (intro hw; with_reducible exact H1.out _ _ hw))))
          refine wpQuiet_nil ?_
          intro w9 hw9
          have HB9 := Lib.hid (show Below w.heap.size w w9 from HB.out.trans (Below.mono hw9 HB.out.size))
          clear hw9
          go_wp2
          go_ret
          exact ⟨by rw [HV.out]; rfl, HB9.out⟩
        have hk3 : x.2.1 ≤ 2 := Decidable.not_not.1 hk2
        have HK2 := Lib.hid hk3
        have g2 : decide ((2 : Int) < x.2.1) = false := decide_eq_false (by omega)
        clear hk2 hk3
        have H3 : Hid (∀ w0 w', OldC w0 w' → Calls Try.prog 31 #[.string x.1] w' fun e w'' => e = .returned (.string (bs (par9 (pl x)))) ∧ OldC w0 w'') := fun w0 w' hw' => by
          obtain ⟨p1, p2⟩ := rE_isP HRV.out
          refine (refPar9 x.1 p1 p2 w').mono ?_
          rintro e w'' ⟨rfl, hb⟩
          exact ⟨rfl, hw'.then hb⟩
        obtain ⟨q, hq⟩ : ∃ q, bs (par9 (pl x)) = q := ⟨_, rfl⟩
        rw [hq] at H3
        have HQ := Lib.hid (show q.data.toList = par9 (pl x) by rw [← hq, bs_list])
        clear hq
        have way : (∃ k' y, Hid (k' + 1 = k) ∧ IntKind.i64.wrap ((k : Int) - 1) = (k' : Int) ∧ decide (0 < k) = true ∧ (k' : Int) < (l.length : Int) ∧ EnCells wr b (off + k' * 3) y ∧ Hid (∀ a, (l.take k).getLast? = some a ↔ a = y) ∧ Hid (y.1.size ≤ 100000)) ∨ (decide (0 < k) = false ∧ Hid ((l.take k).getLast? = none)) := by
          by_cases h0 : 0 < k
          · left
            have hk1 : k - 1 < l.length := by omega
            obtain ⟨b', off', e1, _, hc'⟩ := HE.out.at HB.out hk1
            cases e1
            refine ⟨k - 1, l[k - 1], by show k - 1 + 1 = k; omega, ?_, decide_eq_true h0, by omega, hc', fun a => ?_, HZ.out _ (List.getElem_mem hk1)⟩
            · rw [show (k : Int) - 1 = ((k - 1 : Nat) : Int) by omega]
              exact IntWalk.i64_in _ (by have := HL.out; omega)
            · rw [last_take l k hlt h0]
              simp [eq_comm]
          · right
            have : k = 0 := by omega
            subst this
            exact ⟨rfl, by simp [Hid]⟩
        rcases way with ⟨k', y, HK1, hwk, h0, hk'l, hcy, HLA, HYZ⟩ | ⟨h0, HLA⟩
        · have d0 := hcy.c0
          have H2 : Hid (∀ w0 w', OldC w0 w' → Calls Try.prog 30 #[.string y.1, .string x.1] w' fun e w'' => e = .returned (.bool (lt8 (pl y) (pl x))) ∧ OldC w0 w'') := fun w0 w' hw' => by
            refine (refLess_any y.1 x.1 HYZ.out HX.out w').mono ?_
            rintro e w'' ⟨rfl, hb⟩
            exact ⟨rfl, hw'.then hb⟩
          obtain ⟨v2, hv2⟩ : ∃ v2, lt8 (pl y) (pl x) = v2 := ⟨_, rfl⟩
          rw [hv2] at H2
          have HRV2 := Lib.hid hv2
          clear hv2 hcy
          cases v2 with
          | false =>
            have HV := Lib.hid (show R = false from HBad.out True fun h => by
              rw [HT.out, tr_snoc10] at h
              have := h.2.2.2.1 y ((HLA.out y).2 rfl)
              rw [HRV2.out] at this
              cases this)
            go_wp2_with fail
            refine wp_region_old (by kernel_rfl) (by kernel_rfl) ?_
            repeat (go_big_quiet_step ((first | (intro hw; with_reducible exact H1.out _ _ hw) | (intro hw; with_reducible exact H2.out _ _ hw))))
            refine wpQuiet_nil ?_
            intro w9 hw9
            have HB9 := Lib.hid (show Below w.heap.size w w9 from HB.out.trans (Below.mono hw9 HB.out.size))
            clear hw9
            go_wp2
            go_ret
            exact ⟨by rw [HV.out]; rfl, HB9.out⟩
          | true =>
            have HA := Lib.hid (show ∀ a, (l.take k).getLast? = some a → lt8 (pl a) (pl x) = true from fun a ha => by
              rw [HLA.out] at ha
              rw [ha]
              exact HRV2.out)
            go_wp2_with fail
            refine wp_region_old (by kernel_rfl) (by kernel_rfl) ?_
            repeat (go_big_quiet_step ((first | (intro hw; with_reducible exact H1.out _ _ hw) | (intro hw; with_reducible exact H2.out _ _ hw))))
            refine wpQuiet_nil ?_
            intro w9 hw9
            have HB9 := Lib.hid (show Below w.heap.size w w9 from HB.out.trans (Below.mono hw9 HB.out.size))
            have hcx := HE.out.at HB9.out hlt
            rw [HXK.out] at hcx
            obtain ⟨b', off', e1, _, hcx⟩ := hcx
            cases e1
            have x0 := hcx.c0
            clear hw9 hcx c0 c1 c2
            go_wp2_with fail
            refine (H3.out _ _ (OldC.self _)).mono ?_
            rintro e w3 ⟨rfl, hb3⟩
            have HB3 := Lib.hid (show Below w.heap.size w w3 from HB9.out.trans (Below.mono hb3 HB9.out.size))
            have HF0 := Lib.hid (show (q.toList == [47]) = decide (inD (l.take 0) x) by
              rw [eq_slash, HQ.out]
              unfold inD
              simp)
            clear hb3 x0
            go_wp2
            go_loopg [5, 6] k (fun g f i wx => ∃ (j : Nat) (z : Bool), f = .bool z ∧ i = .int .i64 (j : Int) ∧ j + g = k ∧ Hid (z = decide (inD (l.take j) x)) ∧ Hid (Below w.heap.size w wx))
            case atStart => exact ⟨0, _, rfl, rfl, by omega, HF0.out, HB3.out⟩
            case round =>
              obtain ⟨j, z, rfl, rfl, hj, HF, HBJ⟩ := hrel
              by_cases hjk : j < k
              · have hjk' : (j : Int) < (k : Int) := by omega
                have hjl : j < l.length := by omega
                have hjl' : (j : Int) < (l.length : Int) := by omega
                have hwj : IntKind.i64.wrap ((j : Int) + 1) = (j : Int) + 1 := IntWalk.i64_in _ (by have := HL.out; omega)
                have HIN := Lib.hid (inD_take l x j hjl)
                have hcx := HE.out.at HBJ.out hlt
                have hcy := HE.out.at HBJ.out hjl
                rw [HXK.out] at hcx
                have HU2 := Lib.hid (HI.out.2 (l[j]) (List.mem_take_iff_getElem.2 ⟨j, by rw [Nat.lt_min]; omega, rfl⟩))
                obtain ⟨u, hu⟩ : ∃ u, l[j] = u := ⟨_, rfl⟩
                rw [hu] at hcy HIN HU2
                obtain ⟨b', off', e1, _, hcx⟩ := hcx
                cases e1
                obtain ⟨b', off', e1, _, hcy⟩ := hcy
                cases e1
                have x0 := hcx.c0
                have u0 := hcy.c0
                have u1 := hcy.c1
                clear hcx hcy hu
                have ways : ∃ z', Hid (z' = decide (inD (l.take (j + 1)) x)) ∧ ((z = true ∧ z' = true) ∨ (z = false ∧ (u.1.toList == q.toList) = false ∧ z' = false) ∨ (z = false ∧ (u.1.toList == q.toList) = true ∧ (u.2.1 == 2) = true ∧ z' = true) ∨ (z = false ∧ (u.1.toList == q.toList) = true ∧ (u.2.1 == 2) = false ∧ z' = false)) := by
                  have hq2 : (u.1.toList == q.toList) = decide (pl u = par9 (pl x)) := by rw [Lib.toList_data, Lib.toList_data, HQ.out, Bool.eq_iff_iff, beq_iff_eq, decide_eq_true_iff]
                  have hz2 : decide (inD (l.take (j + 1)) x) = (z || (decide (pl u = par9 (pl x)) && hd u)) := by
                    rw [Bool.eq_iff_iff, decide_eq_true_iff, HIN.out, Bool.or_eq_true, HF.out, decide_eq_true_iff, Bool.and_eq_true, decide_eq_true_iff]
                  refine ⟨_, rfl, ?_⟩
                  rw [hz2, hq2]
                  rw [hd_tree HU2.out]
                  cases z with
                  | true => exact .inl ⟨rfl, rfl⟩
                  | false =>
                    cases decide (pl u = par9 (pl x)) with
                    | false => exact .inr (.inl ⟨rfl, rfl, rfl⟩)
                    | true =>
                      cases (u.2.1 == 2) with
                      | true => exact .inr (.inr (.inl ⟨rfl, rfl, rfl, rfl⟩))
                      | false => exact .inr (.inr (.inr ⟨rfl, rfl, rfl, rfl⟩))
                obtain ⟨z', HZ', ways⟩ := ways
                clear HIN HF
                rcases ways with ⟨rfl, rfl⟩ | ⟨rfl, s1, rfl⟩ | ⟨rfl, s1, s2, rfl⟩ | ⟨rfl, s1, s2, rfl⟩
                all_goals
                  have HB8 := HBJ
                  go_wp2
                  go_roundg (k - (j + 1))
                  case measure => omega
                  case rel => exact ⟨j + 1, _, rfl, by simp, by omega, HZ'.out, HB8.out⟩
              · have hjk' : ¬ (j : Int) < (k : Int) := by omega
                have e : j = k := by omega
                subst e
                cases z with
                | true =>
                  have HN := Lib.hid (show TR (l.take (j + 1)) by
                    rw [HT.out, tr_snoc10]
                    exact ⟨HI.out, HRV.out, HK2.out, HA.out, of_decide_eq_true HF.out.symm⟩)
                  have hwk2 : IntKind.i64.wrap ((j : Int) + 1) = (j : Int) + 1 := IntWalk.i64_in _ (by have := HL.out; omega)
                  go_wp2
                  go_roundg (l.length - (j + 1))
                  case measure => omega
                  case rel => exact ⟨j + 1, by simp, by omega, HN.out, HBJ.out⟩
                | false =>
                  have HV := Lib.hid (show R = false from HBad.out True fun h => by
                    rw [HT.out, tr_snoc10] at h
                    exact of_decide_eq_false HF.out.symm h.2.2.2.2)
                  go_wp2
                  go_ret
                  exact ⟨by rw [HV.out]; rfl, HBJ.out⟩
        · have HA := Lib.hid (show ∀ a, (l.take k).getLast? = some a → lt8 (pl a) (pl x) = true from fun a ha => by
            rw [HLA.out] at ha
            cases ha)
          go_wp2_with fail
          refine wp_region_old (by kernel_rfl) (by kernel_rfl) ?_
          repeat (go_big_quiet_step ((first | (intro hw; with_reducible exact H1.out _ _ hw))))
          refine wpQuiet_nil ?_
          intro w9 hw9
          have HB9 := Lib.hid (show Below w.heap.size w w9 from HB.out.trans (Below.mono hw9 HB.out.size))
          have hcx := HE.out.at HB9.out hlt
          rw [HXK.out] at hcx
          obtain ⟨b', off', e1, _, hcx⟩ := hcx
          cases e1
          have x0 := hcx.c0
          clear hw9 hcx c0 c1 c2
          go_wp2_with fail
          refine (H3.out _ _ (OldC.self _)).mono ?_
          rintro e w3 ⟨rfl, hb3⟩
          have HB3 := Lib.hid (show Below w.heap.size w w3 from HB9.out.trans (Below.mono hb3 HB9.out.size))
          have HF0 := Lib.hid (show (q.toList == [47]) = decide (inD (l.take 0) x) by
            rw [eq_slash, HQ.out]
            unfold inD
            simp)
          clear hb3 x0
          go_wp2
          go_loopg [5, 6] k (fun g f i wx => ∃ (j : Nat) (z : Bool), f = .bool z ∧ i = .int .i64 (j : Int) ∧ j + g = k ∧ Hid (z = decide (inD (l.take j) x)) ∧ Hid (Below w.heap.size w wx))
          case atStart => exact ⟨0, _, rfl, rfl, by omega, HF0.out, HB3.out⟩
          case round =>
            obtain ⟨j, z, rfl, rfl, hj, HF, HBJ⟩ := hrel
            by_cases hjk : j < k
            · have hjk' : (j : Int) < (k : Int) := by omega
              have hjl : j < l.length := by omega
              have hjl' : (j : Int) < (l.length : Int) := by omega
              have hwj : IntKind.i64.wrap ((j : Int) + 1) = (j : Int) + 1 := IntWalk.i64_in _ (by have := HL.out; omega)
              have HIN := Lib.hid (inD_take l x j hjl)
              have hcx := HE.out.at HBJ.out hlt
              have hcy := HE.out.at HBJ.out hjl
              rw [HXK.out] at hcx
              have HU2 := Lib.hid (HI.out.2 (l[j]) (List.mem_take_iff_getElem.2 ⟨j, by rw [Nat.lt_min]; omega, rfl⟩))
              obtain ⟨u, hu⟩ : ∃ u, l[j] = u := ⟨_, rfl⟩
              rw [hu] at hcy HIN HU2
              obtain ⟨b', off', e1, _, hcx⟩ := hcx
              cases e1
              obtain ⟨b', off', e1, _, hcy⟩ := hcy
              cases e1
              have x0 := hcx.c0
              have u0 := hcy.c0
              have u1 := hcy.c1
              clear hcx hcy hu
              have ways : ∃ z', Hid (z' = decide (inD (l.take (j + 1)) x)) ∧ ((z = true ∧ z' = true) ∨ (z = false ∧ (u.1.toList == q.toList) = false ∧ z' = false) ∨ (z = false ∧ (u.1.toList == q.toList) = true ∧ (u.2.1 == 2) = true ∧ z' = true) ∨ (z = false ∧ (u.1.toList == q.toList) = true ∧ (u.2.1 == 2) = false ∧ z' = false)) := by
                have hq2 : (u.1.toList == q.toList) = decide (pl u = par9 (pl x)) := by rw [Lib.toList_data, Lib.toList_data, HQ.out, Bool.eq_iff_iff, beq_iff_eq, decide_eq_true_iff]
                have hz2 : decide (inD (l.take (j + 1)) x) = (z || (decide (pl u = par9 (pl x)) && hd u)) := by
                  rw [Bool.eq_iff_iff, decide_eq_true_iff, HIN.out, Bool.or_eq_true, HF.out, decide_eq_true_iff, Bool.and_eq_true, decide_eq_true_iff]
                refine ⟨_, rfl, ?_⟩
                rw [hz2, hq2]
                rw [hd_tree HU2.out]
                cases z with
                | true => exact .inl ⟨rfl, rfl⟩
                | false =>
                  cases decide (pl u = par9 (pl x)) with
                  | false => exact .inr (.inl ⟨rfl, rfl, rfl⟩)
                  | true =>
                    cases (u.2.1 == 2) with
                    | true => exact .inr (.inr (.inl ⟨rfl, rfl, rfl, rfl⟩))
                    | false => exact .inr (.inr (.inr ⟨rfl, rfl, rfl, rfl⟩))
              obtain ⟨z', HZ', ways⟩ := ways
              clear HIN HF
              rcases ways with ⟨rfl, rfl⟩ | ⟨rfl, s1, rfl⟩ | ⟨rfl, s1, s2, rfl⟩ | ⟨rfl, s1, s2, rfl⟩
              all_goals
                have HB8 := HBJ
                go_wp2
                go_roundg (k - (j + 1))
                case measure => omega
                case rel => exact ⟨j + 1, _, rfl, by simp, by omega, HZ'.out, HB8.out⟩
            · have hjk' : ¬ (j : Int) < (k : Int) := by omega
              have e : j = k := by omega
              subst e
              cases z with
              | true =>
                have HN := Lib.hid (show TR (l.take (j + 1)) by
                  rw [HT.out, tr_snoc10]
                  exact ⟨HI.out, HRV.out, HK2.out, HA.out, of_decide_eq_true HF.out.symm⟩)
                have hwk2 : IntKind.i64.wrap ((j : Int) + 1) = (j : Int) + 1 := IntWalk.i64_in _ (by have := HL.out; omega)
                go_wp2
                go_roundg (l.length - (j + 1))
                case measure => omega
                case rel => exact ⟨j + 1, by simp, by omega, HN.out, HBJ.out⟩
              | false =>
                have HV := Lib.hid (show R = false from HBad.out True fun h => by
                  rw [HT.out, tr_snoc10] at h
                  exact of_decide_eq_false HF.out.symm h.2.2.2.2)
                go_wp2
                go_ret
                exact ⟨by rw [HV.out]; rfl, HBJ.out⟩
    · have hlt' : ¬ (k : Int) < (l.length : Int) := by omega
      have HV := Lib.hid (show R = decide (l.length ≤ 1024) by
        have := HI.out
        rw [List.take_of_length_le (by omega)] at this
        rw [← HR.out]
        unfold TreeL
        simp [this])
      go_wp2
      go_ret
      exact ⟨by rw [HV.out]; first | rfl | (simp; done) | (simp; omega), HB.out⟩
end Go.Proofs.Ytkannambildnoaa
