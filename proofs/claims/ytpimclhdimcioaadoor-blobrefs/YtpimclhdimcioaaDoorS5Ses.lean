/-
  A disk of a call's own, as the statements of layer 5 use it: every call of the landed disk over one state; fail.Code of what it answers; the document's example. Condition: errorType holds error's type.
-/
import Derived.Test.YtpimclhdimcioaaDoorS5Write2
import Derived.Test.YtpimclhdimcioaaDoorS5Crash
import Derived.Test.YtpimclhdimcioaaDoorAs0
namespace Go.Proofs.YtpimclhdimcioaaDoor
open Go.RowKit Go.Maps

/-- Block b is a disk that holds D; its blocks are those of F, none of which was there in W; below B all is as it was in W. -/
structure Ses (W : World) (B : Nat) (F : Nat → Prop) (b : Nat) (D : DskV) (w : World) : Prop where
  dsk : IsDsk w F b D
  up : ∀ k, F k → B ≤ k
  below : Below B W w
  base : B ≤ W.heap.size
  et : EtLaid w
/-- What a call of it may do. -/
structure Did (F F' : Nat → Prop) (w w' : World) : Prop where
  fr : Fr F w w'
  new : ∀ k, F' k → F k ∨ w.heap.size ≤ k
section
variable {W w : World} {B : Nat} {F : Nat → Prop} {b : Nat} {D : DskV}
theorem Ses.etB (h : Ses W B F b D w) (hB : 0 < B) {w' : World} (hb : Below B w w') : EtLaid w' := h.et.below hB hb
theorem Did.refl (F : Nat → Prop) (w : World) : Did F F w w := ⟨Fr.refl _ _, fun _ h => .inl h⟩
theorem Did.of_below {F : Nat → Prop} {w w' : World} (h : Below w.heap.size w w') : Did F F w w' := ⟨Fr.of_below h, fun _ h => .inl h⟩
theorem Did.trans {F F1 F2 : Nat → Prop} {w w1 w2 : World} (h : Did F F1 w w1) (k : Did F1 F2 w1 w2) : Did F F2 w w2 :=
  ⟨h.fr.trans k.fr h.new, fun j hj => (k.new j hj).elim (h.new j) fun e => .inr (Nat.le_trans h.fr.size e)⟩
/-- Another block is left alone. -/
theorem Did.block {F F' : Nat → Prop} {w w' : World} (h : Did F F' w w') {k : Nat} (hk : k < w.heap.size) (hF : ¬ F k) : w'.heap[k]? = w.heap[k]? ∧ ¬ F' k ∧ k < w'.heap.size :=
  ⟨h.fr.block k hk hF, fun e => (h.new k e).elim hF fun e => by omega, Nat.lt_of_lt_of_le hk h.fr.size⟩
theorem Ses.keep (h : Ses W B F b D w) {w' : World} (hb : Below w.heap.size w w') : Ses W B F b D w' :=
  ⟨h.dsk.below hb, h.up, h.below.trans (hb.mono (Nat.le_trans h.base h.below.size)), h.base, h.et.below h.et.lt hb⟩
theorem Ses.step (h : Ses W B F b D w) (hB : 0 < B) {w' : World} {F' : Nat → Prop} {D' : DskV} (hd : IsDsk w' F' b D') (k : Did F F' w w') : Ses W B F' b D' w' := by
  have hs : B ≤ w.heap.size := Nat.le_trans h.base h.below.size
  have hb := k.fr.below hs h.up
  exact ⟨hd, fun j hj => (k.new j hj).elim (h.up j) fun e => by omega, h.below.trans hb, h.base, h.et.below hB hb⟩
end
theorem code_err (n : Int) (w : World) (hg : EtLaid w) : Calls Tryd.prog 12 #[errV n] w fun e w' => e = .returned (.int .i64 n) ∧ Below w.heap.size w w' := by
  unfold errV
  split
  · rename_i h
    subst h
    refine (code_zero w).mono ?_
    rintro e w' ⟨rfl, rfl⟩
    exact ⟨rfl, Below.refl _ _⟩
  · exact code_no n w hg
section
variable {W w : World} {B : Nat} {F : Nat → Prop} {b : Nat} {D : DskV}
theorem ses_new (n : Int) (h1 : 1 ≤ n) (h2 : n ≤ 2048) (hb : Below B W w) (hB : B ≤ W.heap.size) (hg : EtLaid w) : Calls Tryd.prog 8 #[.int .i64 n] w fun e w' => ∃ b F, e = .returned (.tuple #[.pointer (some ⟨b, 0, none⟩), errV 0]) ∧ Ses W B F b (DskV.fresh n) w' ∧ Below w.heap.size w w' ∧ ∀ k, F k → w.heap.size ≤ k := by
  refine (new_good n h1 h2 w).mono ?_
  rintro e w' ⟨F, b, rfl, hd, hb2, hF⟩
  have hs : B ≤ w.heap.size := Nat.le_trans hB hb.size
  exact ⟨b, F, rfl, ⟨hd, fun k hk => Nat.le_trans hs (hF k hk), hb.trans (hb2.mono hs), hB, hg.below hg.lt hb2⟩, hb2, hF⟩
theorem ses_code (h : Ses W B F b D w) (n : Int) : Calls Tryd.prog 12 #[errV n] w fun e w' => e = .returned (.int .i64 n) ∧ Ses W B F b D w' ∧ Below w.heap.size w w' := by
  refine (code_err n w h.et).mono ?_
  rintro e w' ⟨rfl, hb⟩
  exact ⟨rfl, h.keep hb, hb⟩
theorem ses_read (h : Ses W B F b D w) (i : Int) : Calls Tryd.prog 14 #[.pointer (some ⟨b, 0, none⟩), .int .i64 i] w fun e w' => e = .returned (.tuple #[pgv (D.seen i), errV (D.why i)]) ∧ Ses W B F b D w' ∧ Below w.heap.size w w' := by
  refine (read_any h.dsk i).mono ?_
  rintro e w' ⟨rfl, hb⟩
  exact ⟨rfl, h.keep hb, hb⟩
/-- What a write leaves. -/
def DskV.wrote (D : DskV) (i : Int) (p : PgL) : DskV := if D.refuse i = 0 then D.write i p else D
theorem refuse_zero {D : DskV} {i : Int} (h : D.refuse i = 0) : D.why i = 0 ∧ D.budget ≠ 0 := by
  unfold DskV.refuse at h
  split at h
  · rename_i hy
    split at h
    · omega
    · rename_i hb
      exact ⟨hy, hb⟩
  · rename_i hy
    exact absurd h hy
theorem ses_write (h : Ses W B F b D w) (hB : 0 < B) (i : Int) (p : PgL) (hp : p.length = 64) (hf : D.soft.length < 1000) : Calls Tryd.prog 15 #[.pointer (some ⟨b, 0, none⟩), .int .i64 i, pgv p] w fun e w' => e = .returned (errV (D.refuse i)) ∧ ∃ F', Ses W B F' b (D.wrote i p) w' ∧ Did F F' w w' := by
  unfold DskV.wrote
  by_cases hr : D.refuse i = 0
  · rw [if_pos hr, hr]
    obtain ⟨hy, hb0⟩ := refuse_zero hr
    refine (write_done h.dsk i p hp hy hb0 hf).mono ?_
    rintro e w' ⟨rfl, F', hd, hfr, hn⟩
    exact ⟨rfl, F', h.step hB hd ⟨hfr, hn⟩, ⟨hfr, hn⟩⟩
  · rw [if_neg hr]
    refine (write_bad h.dsk i p hr).mono ?_
    rintro e w' ⟨rfl, hb⟩
    exact ⟨rfl, F, h.keep hb, Did.of_below hb⟩
/-- What a flush answers, and leaves. -/
def DskV.flushed (D : DskV) : DskV := if D.down then D else D.flush
end

/-- A page in a new block. -/
theorem Ses.box {W w : World} {B : Nat} {F : Nat → Prop} {b : Nat} {D : DskV} (h : Ses W B F b D w) (o : Obj) : Ses W B F b D (w.alloc o) ∧ ¬ F w.heap.size ∧ w.heap.size < (w.alloc o).heap.size :=
  ⟨h.keep ((Below.refl _ _).alloc (Nat.le_refl _) _), fun e => Nat.lt_irrefl _ (h.dsk.lt _ e), by simp⟩
/-- Two pages' values compared, for the walk. -/
noncomputable def pvEq (u v : Value) : Bool := by
  classical
  exact decide (u = v)
theorem pvEq_agg (a b : PgL) : pvEq (.agg (cellsB a).toArray) (.agg (cellsB b).toArray) = (a == b) := by
  unfold pvEq
  by_cases e : a = b
  · subst e
    simp
  · have : ¬ (Value.agg (cellsB a).toArray = Value.agg (cellsB b).toArray) := fun h => e (cellsB_inj (by
      have h := Value.agg.inj h
      simpa using congrArg Array.toList h))
    simp [this, e]
theorem run_guardE (w : World) (x y : Operand) (c c' : Array Value) : (eqGuard .eql 40 x y (.agg c) (.agg c')).run Tryd.prog w = .ok () w := by
  simp [eqGuard]
theorem run_guardN (w : World) (x y : Operand) (c c' : Array Value) : (eqGuard .neq 40 x y (.agg c) (.agg c')).run Tryd.prog w = .ok () w := by
  simp [eqGuard]
theorem eqw_pg {d : Option Tmp} {ty t2 : TypeId} {pos : String} {af : Array Edge} {g : Option (Nat × Bool)} {x y : Operand} {a : Act} {w : World} {K : Act → World → Prop} {Q : Exit → Act → World → Prop} (hx : IsPv (a.eval x)) (hy : IsPv (a.eval y)) :
    Oper.wp Tryd.prog { dst := d, op := .binOp .eql 40 x y t2, type := ty, pos := pos, after := af, guard := g } a w K Q = K (a.put d (.bool (pvEq (a.eval x) (a.eval y)))) w := by
  obtain ⟨l, hl, h1⟩ := hx
  obtain ⟨k, hk, h2⟩ := hy
  have h := page_eql w l k hl hk
  unfold Oper.wp execOp
  rw [h1, h2, pvEq_agg]
  simp only [Sem.run_bind, Sem.run_pure, Result.andThen_ok, h1, h2, run_guardE, h]
  rfl
theorem new_pg {d : Option Tmp} {ty t2 : TypeId} {pos : String} {af : Array Edge} {g : Option (Nat × Bool)} {x y : Operand} {a : Act} {w : World} {K : Act → World → Prop} {Q : Exit → Act → World → Prop} (hx : IsPv (a.eval x)) (hy : IsPv (a.eval y)) :
    Oper.wp Tryd.prog { dst := d, op := .binOp .neq 40 x y t2, type := ty, pos := pos, after := af, guard := g } a w K Q = K (a.put d (.bool (!pvEq (a.eval x) (a.eval y)))) w := by
  obtain ⟨l, hl, h1⟩ := hx
  obtain ⟨k, hk, h2⟩ := hy
  have h := page_neq w l k hl hk
  unfold Oper.wp execOp
  rw [h1, h2, pvEq_agg]
  simp only [Sem.run_bind, Sem.run_pure, Result.andThen_ok, h1, h2, run_guardN, h]
  rfl
attribute [local go_sem ↓] ldw_pg stw_pg alw_pg bdw_pg0 bdw_pg1 eqw_pg new_pg
attribute [local go_sem] isPgV_ptr pgAtV_ptr thereV_ptr setV_ptr cellsV_agg pvEq_agg
theorem range_below_of {w w' : World} {N : Nat} {l : PgL} (h : w.rangeAt N 0 (cellsB l)) (hb : w'.heap[N]? = w.heap[N]?) : w'.rangeAt N 0 (cellsB l) := fun j v hv => by
  rw [World.cell?_of_block (w := w) hb]
  exact h j v hv
end Go.Proofs.YtpimclhdimcioaaDoor
