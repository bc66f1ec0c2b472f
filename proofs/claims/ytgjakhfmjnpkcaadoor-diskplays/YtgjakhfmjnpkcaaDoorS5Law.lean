/-
  What the statements of layer 5 share: an act out of memory, a place below 8, eight pages in an array of the call's own, rules for the walk. No condition.
-/
import Derived.Test.YtgjakhfmjnpkcaaDoorS5Ses
import Derived.Test.YtgjakhfmjnpkcaaDoorActs5
import Derived.Deep.QuietTactic
import Derived.BigQuiet
namespace Go.Proofs.YtgjakhfmjnpkcaaDoor
open Go.RowKit Go.Maps

theorem i64_and7 (n : Int) : bits .and .i64 n 7 = n % 8 := by
  have h7 : (BitVec.ofInt 64 7).toNat = 2 ^ 3 - 1 := by decide
  have key : (BitVec.ofInt 64 n &&& BitVec.ofInt 64 7).toNat = (n % ((2 ^ 64 : Nat) : Int)).toNat % 2 ^ 3 := by
    rw [BitVec.toNat_and, BitVec.toNat_ofInt, h7, Nat.and_two_pow_sub_one_eq_mod]
  show IntKind.i64.wrap ((BitVec.ofInt 64 n &&& BitVec.ofInt 64 7).toNat : Nat) = n % 8
  rw [key, IntKind.wrap_i64]
  omega
/-- The place of an act below 8. -/
theorem place8 (n : Int) : ∃ q : Nat, q < 8 ∧ bits .and .i64 n 7 = (q : Int) := ⟨(n % 8).toNat, by omega, by rw [i64_and7]; omega⟩
theorem act_at {w : World} {b o : Nat} {x : ActV} (h64 : x.page.length = 64) (h : w.rangeAt b o (actCells x)) : w.cell? ⟨b, o, none⟩ = some (.int .u8 x.what) ∧ w.cell? ⟨b, o + 1, none⟩ = some (.int .i64 x.place) ∧ w.rangeAt b (o + 2) (cellsB x.page) ∧ w.cell? ⟨b, o + 66, none⟩ = some (.int .u64 x.mask) := by
  refine ⟨h 0 _ rfl, h 1 _ rfl, fun j v hv => ?_, ?_⟩
  · have hj : j < (cellsB x.page).length := (List.getElem?_eq_some_iff.1 hv).1
    have := h (j + 2) v (by
      show ((cellsB x.page) ++ [Value.int .u64 x.mask])[j]? = some v
      rw [List.getElem?_append_left hj]
      exact hv)
    rwa [show o + 2 + j = o + (j + 2) by omega]
  · refine h 66 _ ?_
    show ((cellsB x.page) ++ [Value.int .u64 x.mask])[64]? = _
    rw [List.getElem?_append_right (by rw [cellsB_len, h64]; exact Nat.le_refl _), cellsB_len, h64]
    rfl

/-- Eight pages in an array of the call's own. -/
def Arr8 (w : World) (Z : Nat) (ps : List PgL) : Prop := ps.length = 8 ∧ (∀ p ∈ ps, p.length = 64) ∧ w.ownsRow 0 52 64 (.slice (some ⟨Z, 0, none⟩) 8 8) 8 (ps.flatMap cellsB)
def z8c : Array Value := ((List.replicate 8 zpg).flatMap cellsB).toArray
theorem alw_a8 {d : Option Tmp} {ty : TypeId} {pos : String} {af : Array Edge} {g : Option (Nat × Bool)} {a : Act} {w : World} {K : Act → World → Prop} {Q : Exit → Act → World → Prop} :
    Oper.wp Tryd.prog { dst := d, op := .alloc 52, type := ty, pos := pos, after := af, guard := g } a w K Q = K (a.put d (.pointer (some ⟨w.heap.size, 0, none⟩))) (w.alloc (.cells z8c 52)) := by
  have h : (Instr.alloc 52 true (.tuple #[])).run Tryd.prog w = .ok (.pointer (some ⟨w.heap.size, 0, none⟩)) (w.alloc (.cells z8c 52)) := by kernel_rfl
  unfold Oper.wp execOp
  simp only [Sem.run_bind, Sem.run_pure, Result.andThen_ok, h]
  rfl
theorem flat_len8 {ps : List PgL} (h : ∀ p ∈ ps, p.length = 64) : (ps.flatMap cellsB).length = ps.length * 64 := flat_len ps fun p hp => by rw [cellsB_len, h p hp]
theorem Arr8.new (w : World) : Arr8 (w.alloc (.cells z8c 52)) w.heap.size (List.replicate 8 zpg) := by
  have h64 : ∀ p ∈ List.replicate 8 zpg, p.length = 64 := fun p hp => by rw [List.eq_of_mem_replicate hp]; exact zpg_len
  refine ⟨List.length_replicate, h64, ?_, .inr ⟨w.heap.size, 8, z8c, rfl, Nat.zero_le _, heap_alloc_new _ _, Nat.le_refl _, by unfold maxLen; omega, ?_, ?_⟩⟩
  · rw [flat_len8 h64, List.length_replicate]
  · show ((List.replicate 8 zpg).flatMap cellsB).toArray.size = 8 * 64
    rw [List.size_toArray, flat_len8 h64, List.length_replicate]
  · show (((List.replicate 8 zpg).flatMap cellsB).toArray.toList).take (8 * 64) = _
    rw [List.take_of_length_le (by rw [List.toList_toArray, flat_len8 h64, List.length_replicate]; exact Nat.le_refl _)]
theorem Arr8.block {w w' : World} {Z : Nat} {ps : List PgL} (h : Arr8 w Z ps) (hb : w'.heap[Z]? = w.heap[Z]?) : Arr8 w' Z ps := ⟨h.1, h.2.1, owns_block h.2.2 hb⟩
theorem Arr8.lt {w : World} {Z : Nat} {ps : List PgL} (h : Arr8 w Z ps) : Z < w.heap.size := (owns_lt h.2.2).1
theorem Arr8.at {w : World} {Z : Nat} {ps : List PgL} (h : Arr8 w Z ps) {k : Nat} {p : PgL} (hk : ps[k]? = some p) : w.rangeAt Z (k * 64) (cellsB p) ∧ p.length = 64 := by
  have hC : ∀ p ∈ ps, (cellsB p).length = 64 := fun p hp => by rw [cellsB_len, h.2.1 p hp]
  have hp := h.2.1 p (List.mem_of_getElem? hk)
  refine ⟨?_, hp⟩
  obtain ⟨hl, ⟨h2, _⟩ | ⟨g', cap', cur, h2, _, hb, _, _, hsz, ht⟩⟩ := h.2.2
  · cases h2
  · cases h2
    intro j v hv
    have hj : j < 64 := by have := (List.getElem?_eq_some_iff.1 hv).1; rw [cellsB_len] at this; omega
    have hkl : k < ps.length := (List.getElem?_eq_some_iff.1 hk).1
    have hk8 := h.1
    have h4 := flat_at ps hC k j p v hk hv
    have h6 := congrArg (·[k * 64 + j]?) ht
    have h7 : k * 64 + j < 8 * 64 := by
      have : (k + 1) * 64 ≤ 8 * 64 := Nat.mul_le_mul_right _ (by omega)
      omega
    simp only [List.getElem?_take, if_pos h7, h4, Array.getElem?_toList] at h6
    simp [World.cell?, hb, h6]
theorem Arr8.there {w : World} {Z : Nat} {ps : List PgL} (h : Arr8 w Z ps) {k : Nat} (hk : k < 8) : w.there Z (k * 64) 64 :=
  owns_there h.2.2 (by have : (k + 1) * 64 ≤ 8 * 64 := Nat.mul_le_mul_right _ (by omega); omega)
theorem Arr8.set {w : World} {Z : Nat} {ps : List PgL} (h : Arr8 w Z ps) {k : Nat} (hk : k < 8) {p : PgL} (hp : p.length = 64) : Arr8 (w.setCells Z (k * 64) (cellsB p)) Z (ps.set k p) := by
  have hC : ∀ p ∈ ps, (cellsB p).length = 64 := fun p hp => by rw [cellsB_len, h.2.1 p hp]
  have hp2 : (cellsB p).length = 64 := by rw [cellsB_len, hp]
  refine ⟨by simpa using h.1, fun q hq => ?_, ?_⟩
  · rcases List.mem_or_eq_of_mem_set hq with hq | rfl
    · exact h.2.1 q hq
    · exact hp
  · rw [flat_set ps hC k p (by rw [h.1]; exact hk) hp2]
    have := owns_put h.2.2 (k * 64) (cellsB p) (by rw [hp2]; have : (k + 1) * 64 ≤ 8 * 64 := Nat.mul_le_mul_right _ (by omega); omega)
    rw [hp2] at this
    exact this
/-- Two pages compared, as an operation that a region takes first. -/
theorem xne_pg {d : Option Tmp} {ty t2 : TypeId} {pos : String} {af : Array Edge} {g : Option (Nat × Bool)} {x y : Operand} {a : Act} {w : World} (hx : IsPv (a.eval x)) (hy : IsPv (a.eval y)) :
    (execOp a.eval { dst := d, op := .binOp .neq 37 x y t2, type := ty, pos := pos, after := af, guard := g }).run Tryd.prog w = .ok (.value (.bool (!pvEq (a.eval x) (a.eval y)))) w := by
  obtain ⟨l, hl, h1⟩ := hx
  obtain ⟨k, hk, h2⟩ := hy
  have h := page_neq w l k hl hk
  unfold execOp
  rw [h1, h2, pvEq_agg]
  simp only [Sem.run_bind, Sem.run_pure, Result.andThen_ok, h1, h2, run_guardN, h]
theorem xeq_pg {d : Option Tmp} {ty t2 : TypeId} {pos : String} {af : Array Edge} {g : Option (Nat × Bool)} {x y : Operand} {a : Act} {w : World} (hx : IsPv (a.eval x)) (hy : IsPv (a.eval y)) :
    (execOp a.eval { dst := d, op := .binOp .eql 37 x y t2, type := ty, pos := pos, after := af, guard := g }).run Tryd.prog w = .ok (.value (.bool (pvEq (a.eval x) (a.eval y)))) w := by
  obtain ⟨l, hl, h1⟩ := hx
  obtain ⟨k, hk, h2⟩ := hy
  have h := page_eql w l k hl hk
  unfold execOp
  rw [h1, h2, pvEq_agg]
  simp only [Sem.run_bind, Sem.run_pure, Result.andThen_ok, h1, h2, run_guardE, h]
/-- What is read behind a flush, and behind a write. -/
theorem read_flush (D : DskV) (i : Int) : D.flush.read i = D.read i := rfl
theorem read_write (D : DskV) (i j : Int) (p : PgL) : (D.write i p).read j = if i = j then p else D.read j := lst_snoc _ _ _ _
theorem flushed_up {D : DskV} (h : D.down = false) : D.flushed = D.flush := by unfold DskV.flushed; rw [h]; rfl
theorem did_below {W wc w4 : World} {F F' : Nat → Prop} {b : Nat} {D : DskV} (h : Ses W W.heap.size F b D wc) (hd : Did F F' wc.drew w4) : Below W.heap.size wc w4 :=
  (frA hd.fr).below h.below.size h.up
theorem heap_setCells_ne (Z : Nat) : ∀ (vs : List Value) (w : World) (o k : Nat), k ≠ Z → (w.setCells Z o vs).heap[k]? = w.heap[k]?
  | [], _, _, _, _ => rfl
  | v :: r, w, o, k, hk => by
    rw [World.setCells, heap_setCells_ne Z r _ _ _ hk]
    exact Below.heap_setCell _ _ _ _ hk
theorem size_setCells' (Z : Nat) : ∀ (vs : List Value) (w : World) (o : Nat), (w.setCells Z o vs).heap.size = w.heap.size
  | [], _, _ => rfl
  | v :: r, w, o => by
    rw [World.setCells, size_setCells' Z r]
    simp [World.setCell]
/-- A block that is none of the disk's is written to. -/
theorem Ses.beside {W w : World} {B : Nat} {F : Nat → Prop} {b : Nat} {D : DskV} (h : Ses W B F b D w) {Z : Nat} (hZ : B ≤ Z) (hF : ¬ F Z) (hB : 0 < B) (o : Nat) (vs : List Value) : Ses W B F b D (w.setCells Z o vs) := by
  have hb := below_cells (Below.refl B w) hZ vs o
  exact ⟨h.dsk.keep (fun k hk => heap_setCells_ne Z vs w o k (fun e => hF (e ▸ hk))) (Nat.le_of_eq (size_setCells' Z vs w o).symm), h.up, h.below.trans hb, h.base, h.et.below hB hb⟩
theorem range_drewN {w : World} {b o : Nat} {cs : List Value} (h : w.rangeAt b o cs) (m : Nat) : (w.drewN m).rangeAt b o cs := fun j v hv => by simpa using h j v hv
theorem isPg_drewN {w : World} {v : Value} (h : IsPgV w v) (m : Nat) : IsPgV (w.drewN m) v ∧ pgAtV (w.drewN m) v = pgAtV w v := by
  match v, h with
  | .pointer (some ⟨b, o, none⟩), h =>
    obtain ⟨l, hl, hr⟩ := h
    have hr2 := range_drewN hr m
    exact ⟨isPg hr2 hl, (pgAt_eq hr2 hl).trans (pgAt_eq hr hl).symm⟩
/-- An operation that yields one value in every world of a class that is not empty. -/
theorem quiet_eq {o : Oper} {a : Act} {C : World → Prop} {K : Act → Prop} {v : Value} {w0 : World} (h0 : C w0) (h : ∀ w, C w → (execOp a.eval o).run Tryd.prog w = .ok (.value v) w) : Oper.quiet Tryd.prog o a C K = K (a.put o.dst v) := by
  apply propext
  constructor
  · rintro ⟨u, h1, h2⟩
    have := h1 w0 h0
    unfold Oper.quietAt at this
    rw [h w0 h0] at this
    obtain ⟨_, rfl⟩ := this
    exact h2
  · intro hk
    exact ⟨v, fun w hw => by unfold Oper.quietAt; rw [h w hw]; exact ⟨rfl, rfl⟩, hk⟩
theorem qld_pg {d : Option Tmp} {ty : TypeId} {pos : String} {af : Array Edge} {g : Option (Nat × Bool)} {x : Operand} {a : Act} {w0 : World} {K : Act → Prop} (h : IsPgV w0 (a.eval x)) :
    Oper.quiet Tryd.prog { dst := d, op := .load 37 x, type := ty, pos := pos, after := af, guard := g } a (fun w' => ∃ n, w' = w0.drewN n) K = K (a.put d (.agg (cellsB (pgAtV w0 (a.eval x))).toArray)) := by
  refine quiet_eq (w0 := w0) ⟨0, rfl⟩ ?_
  rintro w ⟨n, rfl⟩
  have h2 := isPg_drewN h n
  unfold execOp
  simp only [Sem.run_bind, Sem.run_pure, Result.andThen_ok, ldv_pg h2.1, h2.2]
theorem qne_pg {d : Option Tmp} {ty t2 : TypeId} {pos : String} {af : Array Edge} {g : Option (Nat × Bool)} {x y : Operand} {a : Act} {w0 : World} {K : Act → Prop} (hx : IsPv (a.eval x)) (hy : IsPv (a.eval y)) :
    Oper.quiet Tryd.prog { dst := d, op := .binOp .neq 37 x y t2, type := ty, pos := pos, after := af, guard := g } a (fun w' => ∃ n, w' = w0.drewN n) K = K (a.put d (.bool (!pvEq (a.eval x) (a.eval y)))) :=
  quiet_eq (w0 := w0) ⟨0, rfl⟩ fun _ _ => xne_pg hx hy
theorem qeq_pg {d : Option Tmp} {ty t2 : TypeId} {pos : String} {af : Array Edge} {g : Option (Nat × Bool)} {x y : Operand} {a : Act} {w0 : World} {K : Act → Prop} (hx : IsPv (a.eval x)) (hy : IsPv (a.eval y)) :
    Oper.quiet Tryd.prog { dst := d, op := .binOp .eql 37 x y t2, type := ty, pos := pos, after := af, guard := g } a (fun w' => ∃ n, w' = w0.drewN n) K = K (a.put d (.bool (pvEq (a.eval x) (a.eval y)))) :=
  quiet_eq (w0 := w0) ⟨0, rfl⟩ fun _ _ => xeq_pg hx hy
theorem below_drewN (w : World) (m : Nat) : Below w.heap.size w (w.drewN m) := ⟨rfl, rfl, rfl, Nat.le_refl _, fun _ _ => rfl⟩
theorem code_z (w : World) : Calls Tryd.prog 10 #[errV 0] w fun e w' => e = .returned (.int .i64 0) ∧ w' = w := (code_zero w).mono fun _ _ ⟨he, hw⟩ => ⟨he, hw.symm⟩
end Go.Proofs.YtgjakhfmjnpkcaaDoor
