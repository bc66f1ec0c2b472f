/-
  Two Founds compared: rules for the walk. No condition.
-/
import Derived.Test.YthpobihpdomhoaaDoorPd
import Derived.Test.YthpobihpdomhoaaDoorPc
import Derived.Test.YthpobihpdomhoaaDoorOldEn
namespace Go.Proofs.YthpobihpdomhoaaDoor
open Go.RowKit

theorem fd_eql (w : World) (e f : Ent × Nat) : (binOp .eql 28 (fdnV e) (fdnV f)).run Tryd.prog w = .ok (.bool (decide (e = f))) w := by
  have hd : decide (e = f) = (decide (e.1.1 = f.1.1) && decide (e.1.2.1 = f.1.2.1) && decide (e.1.2.2 = f.1.2.2) && decide ((e.2 : Int) = (f.2 : Int))) := by
    rw [Bool.eq_iff_iff]
    simp only [Bool.and_eq_true, decide_eq_true_iff]
    constructor
    · rintro rfl
      exact ⟨⟨⟨rfl, rfl⟩, rfl⟩, rfl⟩
    · rintro ⟨⟨⟨h1, h2⟩, h3⟩, h4⟩
      exact Prod.ext (Prod.ext h1 (Prod.ext h2 h3)) (by omega)
  rw [hd]
  simp [go_sem]
  simp only [toList_inj]
  by_cases h1 : e.1.1 = f.1.1
  · by_cases h2 : e.1.2.1 = f.1.2.1
    · by_cases h3 : e.1.2.2 = f.1.2.2
      · by_cases h4 : (e.2 : Int) = (f.2 : Int)
        · simp only [h1, h2, h3, h4]
          simp
        · simp [h1, h2, h3, h4]
      · simp [h1, h2, h3]
    · simp [h1, h2]
  · simp [h1]
theorem fd_neq (w : World) (e f : Ent × Nat) : (binOp .neq 28 (fdnV e) (fdnV f)).run Tryd.prog w = .ok (.bool (!decide (e = f))) w := by
  have h := fd_eql w e f
  rw [run_eql_struct] at h
  rw [run_neq_struct]
  generalize (Op.equalIn 10000 28 (fdnV e) (fdnV f)).run Tryd.prog w = r at h
  cases r with
  | ok b w' =>
    simp only [Result.andThen_ok] at h ⊢
    injection h with h1 h2
    injection h1 with h1
    rw [h1, h2]
  | halt x w' => cases h
/-- A Found's value. -/
def IsFv (v : Value) : Prop := ∃ e : Ent × Nat, v = fdnV e
def fdOf (v : Value) : Ent × Nat := match v with
  | .agg ⟨[.string p, .int _ k, .string d, .int _ n]⟩ => ((p, k, d), n.toNat)
  | _ => ((⟨#[]⟩, 0, ⟨#[]⟩), 0)
/-- Two Founds' values alike? -/
def fvEq (v u : Value) : Bool := decide (fdOf v = fdOf u)
theorem isFv_agg (p : ByteArray) (k : Int) (d : ByteArray) (n : Nat) : IsFv (.agg #[.string p, .int .i64 k, .string d, .int .i64 (n : Int)]) = True := eq_true ⟨((p, k, d), n), rfl⟩
theorem isFv_zero (p : ByteArray) (k : Int) (d : ByteArray) : IsFv (.agg #[.string p, .int .i64 k, .string d, .int .i64 0]) = True := eq_true ⟨((p, k, d), 0), rfl⟩
theorem fvEq_agg (p q : ByteArray) (k m : Int) (d f : ByteArray) (n o : Nat) : fvEq (.agg #[.string p, .int .i64 k, .string d, .int .i64 (n : Int)]) (.agg #[.string q, .int .i64 m, .string f, .int .i64 (o : Int)]) = decide ((((p, k, d), n) : Ent × Nat) = ((q, m, f), o)) := rfl
theorem fvEq_zero (p q : ByteArray) (k m : Int) (d f : ByteArray) (n : Nat) : fvEq (.agg #[.string p, .int .i64 k, .string d, .int .i64 (n : Int)]) (.agg #[.string q, .int .i64 m, .string f, .int .i64 0]) = decide ((((p, k, d), n) : Ent × Nat) = ((q, m, f), 0)) := rfl
theorem eta_fd (e : Ent × Nat) : (((e.1.1, e.1.2.1, e.1.2.2), e.2) : Ent × Nat) = e := rfl
theorem guardE_fd (op : BinOp) (w : World) (x y : Operand) (c c' : Array Value) : (eqGuard op 28 x y (.agg c) (.agg c')).run Tryd.prog w = .ok () w := run_eqGuard_agg _ op 28 x y c c' (by kernel_rfl)
theorem xeq_fd {d : Option Tmp} {ty t2 : TypeId} {pos : String} {af : Array Edge} {g : Option (Nat × Bool)} {x y : Operand} {a : Act} {w : World} (hx : IsFv (a.eval x)) (hy : IsFv (a.eval y)) :
    (execOp a.eval { dst := d, op := .binOp .eql 28 x y t2, type := ty, pos := pos, after := af, guard := g }).run Tryd.prog w = .ok (.value (.bool (fvEq (a.eval x) (a.eval y)))) w := by
  obtain ⟨e, h1⟩ := hx
  obtain ⟨f, h2⟩ := hy
  have h := fd_eql w e f
  unfold execOp
  rw [h1, h2, fvEq_agg, eta_fd, eta_fd]
  simp only [Sem.run_bind, Sem.run_pure, Result.andThen_ok, h1, h2, guardE_fd, h]
theorem xne_fd {d : Option Tmp} {ty t2 : TypeId} {pos : String} {af : Array Edge} {g : Option (Nat × Bool)} {x y : Operand} {a : Act} {w : World} (hx : IsFv (a.eval x)) (hy : IsFv (a.eval y)) :
    (execOp a.eval { dst := d, op := .binOp .neq 28 x y t2, type := ty, pos := pos, after := af, guard := g }).run Tryd.prog w = .ok (.value (.bool (!fvEq (a.eval x) (a.eval y)))) w := by
  obtain ⟨e, h1⟩ := hx
  obtain ⟨f, h2⟩ := hy
  have h := fd_neq w e f
  unfold execOp
  rw [h1, h2, fvEq_agg, eta_fd, eta_fd]
  simp only [Sem.run_bind, Sem.run_pure, Result.andThen_ok, h1, h2, guardE_fd, h]
section
variable {d : Option Tmp} {ty t2 : TypeId} {pos : String} {af : Array Edge} {g : Option (Nat × Bool)} {x y : Operand} {a : Act} {w0 : World} {K : Act → Prop} {KW : Act → World → Prop} {Q : Exit → Act → World → Prop}
theorem old_eqfd (hx : IsFv (a.eval x)) (hy : IsFv (a.eval y)) : Oper.quiet Tryd.prog { dst := d, op := .binOp .eql 28 x y t2, type := ty, pos := pos, after := af, guard := g } a (OldC w0) K = K (a.put d (.bool (fvEq (a.eval x) (a.eval y)))) :=
  quiet_eq9 (OldC.self w0) fun _ _ => xeq_fd hx hy
theorem old_nefd (hx : IsFv (a.eval x)) (hy : IsFv (a.eval y)) : Oper.quiet Tryd.prog { dst := d, op := .binOp .neq 28 x y t2, type := ty, pos := pos, after := af, guard := g } a (OldC w0) K = K (a.put d (.bool (!fvEq (a.eval x) (a.eval y)))) :=
  quiet_eq9 (OldC.self w0) fun _ _ => xne_fd hx hy
theorem eqw_fd (hx : IsFv (a.eval x)) (hy : IsFv (a.eval y)) : Oper.wp Tryd.prog { dst := d, op := .binOp .eql 28 x y t2, type := ty, pos := pos, after := af, guard := g } a w0 KW Q = KW (a.put d (.bool (fvEq (a.eval x) (a.eval y)))) w0 := by
  unfold Oper.wp
  rw [xeq_fd hx hy]
  rfl
theorem new_fd (hx : IsFv (a.eval x)) (hy : IsFv (a.eval y)) : Oper.wp Tryd.prog { dst := d, op := .binOp .neq 28 x y t2, type := ty, pos := pos, after := af, guard := g } a w0 KW Q = KW (a.put d (.bool (!fvEq (a.eval x) (a.eval y)))) w0 := by
  unfold Oper.wp
  rw [xne_fd hx hy]
  rfl
end
/-- A Found lies there; it. -/
def IsF4 (w : World) : Value → Prop
  | .pointer (some ⟨b, o, none⟩) => (∃ p, w.cell? ⟨b, o, none⟩ = some (.string p)) ∧ (∃ k, w.cell? ⟨b, o + 1, none⟩ = some (.int .i64 k)) ∧ (∃ d, w.cell? ⟨b, o + 2, none⟩ = some (.string d)) ∧ ∃ n, w.cell? ⟨b, o + 3, none⟩ = some (.int .i64 n)
  | _ => False
def f4V (w : World) : Value → Value
  | .pointer (some ⟨b, o, none⟩) => .agg #[(w.cell? ⟨b, o, none⟩).getD undef, (w.cell? ⟨b, o + 1, none⟩).getD undef, (w.cell? ⟨b, o + 2, none⟩).getD undef, (w.cell? ⟨b, o + 3, none⟩).getD undef]
  | _ => undef
theorem isF4_ptr (w : World) (b o : Nat) : IsF4 w (.pointer (some ⟨b, o, none⟩)) = ((∃ p, w.cell? ⟨b, o, none⟩ = some (.string p)) ∧ (∃ k, w.cell? ⟨b, o + 1, none⟩ = some (.int .i64 k)) ∧ (∃ d, w.cell? ⟨b, o + 2, none⟩ = some (.string d)) ∧ ∃ n, w.cell? ⟨b, o + 3, none⟩ = some (.int .i64 n)) := rfl
theorem f4V_ptr (w : World) (b o : Nat) : f4V w (.pointer (some ⟨b, o, none⟩)) = .agg #[(w.cell? ⟨b, o, none⟩).getD undef, (w.cell? ⟨b, o + 1, none⟩).getD undef, (w.cell? ⟨b, o + 2, none⟩).getD undef, (w.cell? ⟨b, o + 3, none⟩).getD undef] := rfl
theorem fdSize : (Tryd.prog.info? 28).map (·.size) = some 4 := by kernel_rfl
theorem old_ldf4 {d : Option Tmp} {ty : TypeId} {pos : String} {af : Array Edge} {g : Option (Nat × Bool)} {x : Operand} {a : Act} {w0 : World} {K : Act → Prop} (h : IsF4 w0 (a.eval x)) :
    Oper.quiet Tryd.prog { dst := d, op := .load 28 x, type := ty, pos := pos, after := af, guard := g } a (OldC w0) K = K (a.put d (f4V w0 (a.eval x))) := by
  refine old_eq fun w hw => ?_
  have hl : (Instr.loadAt 28 (a.eval x)).run Tryd.prog w = .ok (f4V w0 (a.eval x)) w := by
    match a.eval x, h with
    | .pointer (some ⟨b, o, none⟩), ⟨⟨p, hp⟩, ⟨k, hk⟩, ⟨d, hd⟩, ⟨n, hn⟩⟩ =>
      rw [f4V_ptr, hp, hk, hd, hn]
      have hlt := World.block_lt_of_cell? w0 _ hp
      have hr : w.rangeAt b o [.string p, .int .i64 k, .string d, .int .i64 n] := by
        intro j v hv
        match j, hv with
        | 0, hv => obtain rfl : .string p = v := by simpa using hv
                   exact (Below.cell hw (p := ⟨b, o, none⟩) hlt).trans hp
        | 1, hv => obtain rfl : .int .i64 k = v := by simpa using hv
                   exact (Below.cell hw (p := ⟨b, o + 1, none⟩) hlt).trans hk
        | 2, hv => obtain rfl : .string d = v := by simpa using hv
                   exact (Below.cell hw (p := ⟨b, o + 2, none⟩) hlt).trans hd
        | 3, hv => obtain rfl : .int .i64 n = v := by simpa using hv
                   exact (Below.cell hw (p := ⟨b, o + 3, none⟩) hlt).trans hn
      exact run_loadAt_mid w b o 28 _ _ hr Tryd.underlying28 rfl (by rw [fdSize]; rfl)
  unfold execOp
  simp only [Sem.run_bind, Sem.run_pure, Result.andThen_ok, hl]
end Go.Proofs.YthpobihpdomhoaaDoor
