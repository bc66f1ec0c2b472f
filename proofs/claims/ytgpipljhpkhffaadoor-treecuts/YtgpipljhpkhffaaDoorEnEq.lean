/-
  Two entries compared: rules for the walk (plain, in a region that reads, in one that leaves what was there as it was). No condition.
-/
import Derived.Test.YtgpipljhpkhffaaDoorPc
import Derived.Laws.StructEq
import Derived.BigQuiet
namespace Go.Proofs.YtgpipljhpkhffaaDoor
open Go.RowKit

theorem toList_inj {a b : ByteArray} : a.toList = b.toList ↔ a = b := by
  rw [Lib.toList_data, Lib.toList_data]
  exact ⟨ba_ext, fun h => by rw [h]⟩
theorem ent_eql (w : World) (e f : Ent) : (binOp .eql 41 (enV e) (enV f)).run Tryd.prog w = .ok (.bool (decide (e = f))) w := by
  have hd : decide (e = f) = (decide (e.1 = f.1) && decide (e.2.1 = f.2.1) && decide (e.2.2 = f.2.2)) := by
    rw [Bool.eq_iff_iff, Bool.and_eq_true, Bool.and_eq_true, decide_eq_true_iff, decide_eq_true_iff, decide_eq_true_iff, decide_eq_true_iff]
    constructor
    · rintro rfl
      exact ⟨⟨rfl, rfl⟩, rfl⟩
    · rintro ⟨⟨h1, h2⟩, h3⟩
      exact Prod.ext h1 (Prod.ext h2 h3)
  rw [hd]
  simp [go_sem]
  simp only [toList_inj]
  by_cases h1 : e.1 = f.1
  · by_cases h2 : e.2.1 = f.2.1
    · by_cases h3 : e.2.2 = f.2.2
      · simp [h1, h2, h3]
      · simp [h1, h2, h3]
    · simp [h1, h2]
  · simp [h1]
theorem ent_neq (w : World) (e f : Ent) : (binOp .neq 41 (enV e) (enV f)).run Tryd.prog w = .ok (.bool (!decide (e = f))) w := by
  have h := ent_eql w e f
  rw [run_eql_struct] at h
  rw [run_neq_struct]
  generalize (Op.equalIn 10000 41 (.agg #[.string e.1, .int .i64 e.2.1, .string e.2.2]) (.agg #[.string f.1, .int .i64 f.2.1, .string f.2.2])).run Tryd.prog w = r at h
  cases r with
  | ok b w' =>
    simp only [Result.andThen_ok] at h ⊢
    injection h with h1 h2
    injection h1 with h1
    rw [h1, h2]
  | halt x w' => cases h
/-- An entry's value. -/
def IsEv (v : Value) : Prop := ∃ e : Ent, v = enV e
def entOf (v : Value) : Ent := match v with
  | .agg ⟨[.string p, .int _ k, .string d]⟩ => (p, k, d)
  | _ => (⟨#[]⟩, 0, ⟨#[]⟩)
/-- Two entries' values alike? -/
def evEq (v u : Value) : Bool := decide (entOf v = entOf u)
theorem isEv_agg (p : ByteArray) (k : Int) (d : ByteArray) : IsEv (.agg #[.string p, .int .i64 k, .string d]) = True := eq_true ⟨(p, k, d), rfl⟩
theorem evEq_agg (p q : ByteArray) (k m : Int) (d f : ByteArray) : evEq (.agg #[.string p, .int .i64 k, .string d]) (.agg #[.string q, .int .i64 m, .string f]) = decide (((p, k, d) : Ent) = (q, m, f)) := rfl
theorem eta_ent (e : Ent) : ((e.1, e.2.1, e.2.2) : Ent) = e := rfl
theorem guardE_en (op : BinOp) (w : World) (x y : Operand) (c c' : Array Value) : (eqGuard op 41 x y (.agg c) (.agg c')).run Tryd.prog w = .ok () w := run_eqGuard_agg _ op 41 x y c c' (by kernel_rfl)
theorem xeq_en {d : Option Tmp} {ty t2 : TypeId} {pos : String} {af : Array Edge} {g : Option (Nat × Bool)} {x y : Operand} {a : Act} {w : World} (hx : IsEv (a.eval x)) (hy : IsEv (a.eval y)) :
    (execOp a.eval { dst := d, op := .binOp .eql 41 x y t2, type := ty, pos := pos, after := af, guard := g }).run Tryd.prog w = .ok (.value (.bool (evEq (a.eval x) (a.eval y)))) w := by
  obtain ⟨e, h1⟩ := hx
  obtain ⟨f, h2⟩ := hy
  have h := ent_eql w e f
  unfold execOp
  rw [h1, h2, evEq_agg, eta_ent, eta_ent]
  simp only [Sem.run_bind, Sem.run_pure, Result.andThen_ok, h1, h2, guardE_en, h]
theorem xne_en {d : Option Tmp} {ty t2 : TypeId} {pos : String} {af : Array Edge} {g : Option (Nat × Bool)} {x y : Operand} {a : Act} {w : World} (hx : IsEv (a.eval x)) (hy : IsEv (a.eval y)) :
    (execOp a.eval { dst := d, op := .binOp .neq 41 x y t2, type := ty, pos := pos, after := af, guard := g }).run Tryd.prog w = .ok (.value (.bool (!evEq (a.eval x) (a.eval y)))) w := by
  obtain ⟨e, h1⟩ := hx
  obtain ⟨f, h2⟩ := hy
  have h := ent_neq w e f
  unfold execOp
  rw [h1, h2, evEq_agg, eta_ent, eta_ent]
  simp only [Sem.run_bind, Sem.run_pure, Result.andThen_ok, h1, h2, guardE_en, h]
section
variable {d : Option Tmp} {ty t2 : TypeId} {pos : String} {af : Array Edge} {g : Option (Nat × Bool)} {x y : Operand} {a : Act} {w0 : World} {K : Act → Prop} {KW : Act → World → Prop} {Q : Exit → Act → World → Prop}
theorem quiet_eq9 {o : Oper} {C : World → Prop} {v : Value} (h0 : C w0) (h : ∀ w, C w → (execOp a.eval o).run Tryd.prog w = .ok (.value v) w) : Oper.quiet Tryd.prog o a C K = K (a.put o.dst v) := by
  apply propext
  constructor
  · rintro ⟨u, h1, h2⟩
    have := h1 w0 h0
    unfold Oper.quietAt at this
    rw [h w0 h0] at this
    obtain ⟨_, rfl⟩ := this
    exact h2
  · intro hk
    exact ⟨v, fun w hw => by unfold Oper.quietAt; rw [h w hw]; exact ⟨rfl, rfl⟩, hk⟩
theorem qeq_en (hx : IsEv (a.eval x)) (hy : IsEv (a.eval y)) : Oper.quiet Tryd.prog { dst := d, op := .binOp .eql 41 x y t2, type := ty, pos := pos, after := af, guard := g } a (fun w' => ∃ n, w' = w0.drewN n) K = K (a.put d (.bool (evEq (a.eval x) (a.eval y)))) :=
  quiet_eq9 (w0 := w0) ⟨0, rfl⟩ fun _ _ => xeq_en hx hy
theorem qne_en (hx : IsEv (a.eval x)) (hy : IsEv (a.eval y)) : Oper.quiet Tryd.prog { dst := d, op := .binOp .neq 41 x y t2, type := ty, pos := pos, after := af, guard := g } a (fun w' => ∃ n, w' = w0.drewN n) K = K (a.put d (.bool (!evEq (a.eval x) (a.eval y)))) :=
  quiet_eq9 (w0 := w0) ⟨0, rfl⟩ fun _ _ => xne_en hx hy
theorem old_eqen (hx : IsEv (a.eval x)) (hy : IsEv (a.eval y)) : Oper.quiet Tryd.prog { dst := d, op := .binOp .eql 41 x y t2, type := ty, pos := pos, after := af, guard := g } a (OldC w0) K = K (a.put d (.bool (evEq (a.eval x) (a.eval y)))) :=
  quiet_eq9 (OldC.self w0) fun _ _ => xeq_en hx hy
theorem old_neen (hx : IsEv (a.eval x)) (hy : IsEv (a.eval y)) : Oper.quiet Tryd.prog { dst := d, op := .binOp .neq 41 x y t2, type := ty, pos := pos, after := af, guard := g } a (OldC w0) K = K (a.put d (.bool (!evEq (a.eval x) (a.eval y)))) :=
  quiet_eq9 (OldC.self w0) fun _ _ => xne_en hx hy
theorem eqw_en (hx : IsEv (a.eval x)) (hy : IsEv (a.eval y)) : Oper.wp Tryd.prog { dst := d, op := .binOp .eql 41 x y t2, type := ty, pos := pos, after := af, guard := g } a w0 KW Q = KW (a.put d (.bool (evEq (a.eval x) (a.eval y)))) w0 := by
  unfold Oper.wp
  rw [xeq_en hx hy]
  rfl
theorem new_en (hx : IsEv (a.eval x)) (hy : IsEv (a.eval y)) : Oper.wp Tryd.prog { dst := d, op := .binOp .neq 41 x y t2, type := ty, pos := pos, after := af, guard := g } a w0 KW Q = KW (a.put d (.bool (!evEq (a.eval x) (a.eval y)))) w0 := by
  unfold Oper.wp
  rw [xne_en hx hy]
  rfl
end
end Go.Proofs.YtgpipljhpkhffaaDoor
