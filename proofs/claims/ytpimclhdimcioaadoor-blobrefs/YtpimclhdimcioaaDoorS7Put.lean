/-
  The contract of package blob's Put: of another size, of a run that does not lie on the disk, of nil; else sector by sector, until a write is refused. Conditions: as each says.
-/
import Derived.Test.YtpimclhdimcioaaDoorS7Lay
import Derived.Test.YtpimclhdimcioaaDoorS7Page
import Derived.Test.YtpimclhdimcioaaDoorS5Ses
import Derived.Test.YtpimclhdimcioaaDoorS2Sum
namespace Go.Proofs.YtpimclhdimcioaaDoor
open Go.RowKit Go.Maps

theorem sec_drop (l : List UInt8) (i : Nat) : fl (l.drop (64 * i)) 64 = sec l i := by
  apply List.ext_getElem?
  intro j
  by_cases hj : j < 64
  · rw [fl_get _ _ _ hj, sec_get _ _ _ hj, List.getD_eq_getElem?_getD, List.getD_eq_getElem?_getD, List.getElem?_drop]
  · rw [List.getElem?_eq_none (by rw [fl_len]; omega), List.getElem?_eq_none (by rw [sec_len]; omega)]
/-- Sectors written one behind the other, until a write is refused: the disk then, the error. -/
def putGo (k : Int) (l : List UInt8) : Nat → Nat → DskV → DskV × Int
  | 0, _, D => (D, 0)
  | n + 1, i, D => if D.refuse (k + (i : Int)) = 0 then putGo k l n (i + 1) (D.write (k + (i : Int)) (sec l i)) else (D, D.refuse (k + (i : Int)))
/-- A text's place in memory. -/
def RfAt (w : World) (b : Nat) (k n s : Int) : Prop := w.heap[b]? = some (.cells #[.int .i64 k, .int .i64 n, .int .u32 s] 32 (0, 0))
theorem rfAt_new (w : World) (k n s : Int) : RfAt (w.alloc (.cells #[.int .i64 k, .int .i64 n, .int .u32 s] 32)) w.heap.size k n s := heap_alloc_new _ _
theorem RfAt.lt {w : World} {b : Nat} {k n s : Int} (h : RfAt w b k n s) : b < w.heap.size := (Array.getElem?_eq_some_iff.1 h).1
theorem RfAt.of {w w' : World} {b : Nat} {k n s : Int} (h : RfAt w b k n s) (hb : w'.heap[b]? = w.heap[b]?) : RfAt w' b k n s := hb.trans h
theorem RfAt.below {w w' : World} {b : Nat} {k n s : Int} (h : RfAt w b k n s) (hb : Below w.heap.size w w') : RfAt w' b k n s := h.of (hb.block b h.lt)
theorem RfAt.range {w : World} {b : Nat} {k n s : Int} (h : RfAt w b k n s) : w.rangeAt b 0 [.int .i64 k, .int .i64 n, .int .u32 s] := fun j v hv => by
  rw [Nat.zero_add]
  exact (cell_of h (by simpa using hv)).1
theorem RfAt.c0 {w : World} {b : Nat} {k n s : Int} (h : RfAt w b k n s) : w.cell? ⟨b, 0, none⟩ = some (.int .i64 k) := (cell_of h rfl).1
theorem RfAt.c1 {w : World} {b : Nat} {k n s : Int} (h : RfAt w b k n s) : w.cell? ⟨b, 1, none⟩ = some (.int .i64 n) := (cell_of h rfl).1
theorem RfAt.c2 {w : World} {b : Nat} {k n s : Int} (h : RfAt w b k n s) : w.cell? ⟨b, 2, none⟩ = some (.int .u32 s) := (cell_of h rfl).1
theorem RfAt.f0 {w : World} {b : Nat} {k n s : Int} (h : RfAt w b k n s) : w.frozen? ⟨b, 0, none⟩ = false := (cell_of h (j := 0) rfl).2
theorem RfAt.f1 {w : World} {b : Nat} {k n s : Int} (h : RfAt w b k n s) : w.frozen? ⟨b, 1, none⟩ = false := (cell_of h (j := 1) rfl).2
theorem RfAt.f2 {w : World} {b : Nat} {k n s : Int} (h : RfAt w b k n s) : w.frozen? ⟨b, 2, none⟩ = false := (cell_of h (j := 2) rfl).2
theorem rfSize : (Tryd.prog.info? 32).map (·.size) = some 3 := by kernel_rfl
theorem lv_rf {w : World} {b : Nat} {k n s : Int} (h : RfAt w b k n s) : (loadVar 32 ⟨b, 0, none⟩).run Tryd.prog w = .ok (refV k n s) w :=
  run_loadVar_mid w b 0 32 _ _ h.range Tryd.underlying32 rfl (by rw [rfSize]; rfl)
theorem ld_rf {w : World} {b : Nat} {k n s : Int} (h : RfAt w b k n s) : (Instr.loadAt 32 (.pointer (some ⟨b, 0, none⟩))).run Tryd.prog w = .ok (refV k n s) w :=
  run_loadAt_mid w b 0 32 _ _ h.range Tryd.underlying32 rfl (by rw [rfSize]; rfl)
theorem RfAt.set {w : World} {b : Nat} {k n s : Int} (h : RfAt w b k n s) (k' n' s' : Int) : RfAt (w.setCells b 0 [.int .i64 k', .int .i64 n', .int .u32 s']) b k' n' s' := by
  have h1 := set_of h 0 (.int .i64 k')
  have h2 := set_of h1 1 (.int .i64 n')
  exact set_of h2 2 (.int .u32 s')
set_option maxRecDepth 10000 in
theorem put_size (d : Value) (k : Int) (s : ByteArray) (hz : s.size < 1 ∨ 16384 < s.size) (w : World) : Calls Tryd.prog 10 #[d, .int .i64 k, .string s] w fun e w' => e = .returned (.tuple #[refV 0 0 0, .iface 57 (.int .i64 15)]) ∧ Below w.heap.size w w' := by
  have hp : pgs (s.size : Int) = 0 := if_pos (by omega)
  have HP := Lib.hid hp
  clear hp hz
  go_enter Tryd.func10, Tryd.ntmps10
  go_wp2_with fail
  refine (pages_any _ _).mono ?_
  rintro e w2 ⟨rfl, rfl⟩
  rw [HP.out]
  go_wp2
  have hld := lv_rf (rfAt_new w 0 0 0)
  refine bodyPost_ret (v := .tuple #[refV 0 0 0, .iface 57 (.int .i64 15)]) ?_ rfl ⟨rfl, (Below.refl _ _).alloc (Nat.le_refl _) _⟩
  rw [results_cell2 rfl]
  simp [asAddr, Result.andThen, hld]
theorem lv_rf3 {w : World} {b : Nat} {k n s : Int} (h : RfAt w b k n s) (k' n' s' : Int) : (loadVar 32 ⟨b, 0, none⟩).run Tryd.prog (((w.setCell ⟨b, 0, none⟩ (.int .i64 k')).setCell ⟨b, 1, none⟩ (.int .i64 n')).setCell ⟨b, 2, none⟩ (.int .u32 s')) = .ok (refV k' n' s') (((w.setCell ⟨b, 0, none⟩ (.int .i64 k')).setCell ⟨b, 1, none⟩ (.int .i64 n')).setCell ⟨b, 2, none⟩ (.int .u32 s')) := lv_rf (h.set k' n' s')
theorem below_rf3 {B : Nat} {a w : World} (h : Below B a w) {b : Nat} (hb : B ≤ b) (k n s : Int) : Below B a (((w.setCell ⟨b, 0, none⟩ (.int .i64 k)).setCell ⟨b, 1, none⟩ (.int .i64 n)).setCell ⟨b, 2, none⟩ (.int .u32 s)) := ((h.setCell (p := ⟨b, 0, none⟩) hb _).setCell (p := ⟨b, 1, none⟩) hb _).setCell (p := ⟨b, 2, none⟩) hb _
/-- The same of a pointer's value, whatever term it is yet. -/
def IsRf (w : World) : Value → Prop
  | .pointer (some ⟨b, 0, none⟩) => ∃ k n s, RfAt w b k n s
  | _ => False
def rfO : Option Obj → Value
  | some (.cells cs _ _) => .agg cs
  | _ => undef
def rfV (w : World) : Value → Value
  | .pointer (some ⟨b, 0, none⟩) => rfO w.heap[b]?
  | _ => undef
theorem RfAt.is {w : World} {b : Nat} {k n s : Int} (h : RfAt w b k n s) : IsRf w (.pointer (some ⟨b, 0, none⟩)) ∧ rfV w (.pointer (some ⟨b, 0, none⟩)) = refV k n s := ⟨⟨k, n, s, h⟩, by show rfO w.heap[b]? = _; rw [h]; rfl⟩
theorem old_ldrf {d : Option Tmp} {ty : TypeId} {pos : String} {af : Array Edge} {g : Option (Nat × Bool)} {x : Operand} {a : Act} {w0 : World} {K : Act → Prop} (h : IsRf w0 (a.eval x)) :
    Oper.quiet Tryd.prog { dst := d, op := .load 32 x, type := ty, pos := pos, after := af, guard := g } a (OldC w0) K = K (a.put d (rfV w0 (a.eval x))) := by
  refine old_eq fun w hw => ?_
  have hl : (Instr.loadAt 32 (a.eval x)).run Tryd.prog w = .ok (rfV w0 (a.eval x)) w := by
    match a.eval x, h with
    | .pointer (some ⟨b, 0, none⟩), ⟨k, n, s, h⟩ =>
      rw [h.is.2]
      exact ld_rf (h.below hw)
  unfold execOp
  simp only [Sem.run_bind, Sem.run_pure, Result.andThen_ok, hl]
attribute [local go_sem ↓] old_ldrf
attribute [local go_sem] oldC_forall
theorem right_old (k n s size : Int) (hs : size ≤ 9223372036854775807) : Hid (∀ w0 w', OldC w0 w' → Calls Tryd.prog 13 #[refV k n s, .int .i64 size] w' fun e w'' => e = .returned (.bool (rt k n size)) ∧ OldC w0 w'') := fun w0 w' hw' => by
  refine (right_any k n s size hs w').mono ?_
  rintro e w'' ⟨rfl, hb⟩
  exact ⟨rfl, hw'.then hb⟩
/-- How many sectors a disk has, a disk or nil. -/
abbrev SizeIs (d : Value) (size : Int) (w : World) : Prop := ∀ w', OldC w w' → Calls Tryd.prog 24 #[d] w' fun e w'' => e = .returned (.int .i64 size) ∧ OldC w w''
theorem sizeIs_nil (w : World) : SizeIs (.pointer none) 0 w := fun w' hw' => by
  refine (size_nil w').mono ?_
  rintro e w'' ⟨rfl, rfl⟩
  exact ⟨rfl, hw'⟩
theorem sizeIs_dsk {w : World} {F : Nat → Prop} {b : Nat} {D : DskV} (h : IsDsk w F b D) : SizeIs (.pointer (some ⟨b, 0, none⟩)) D.size w := fun w' hw' => by
  refine (size_any (h.below hw')).mono ?_
  rintro e w'' ⟨rfl, rfl⟩
  exact ⟨rfl, hw'⟩
theorem rf_two (w : World) (k n s : Int) : ∃ W, (w.alloc (.cells #[.int .i64 0, .int .i64 0, .int .u32 0] 32)).alloc (.cells #[.int .i64 k, .int .i64 n, .int .u32 s] 32) = W ∧ RfAt W w.heap.size 0 0 0 ∧ RfAt W (w.heap.size + 1) k n s ∧ Below w.heap.size w W := by
  refine ⟨_, rfl, (rfAt_new w 0 0 0).below ((Below.refl _ _).alloc (Nat.le_refl _) _), ?_, ((Below.refl _ _).alloc (Nat.le_refl _) _).alloc (by simp) _⟩
  have := rfAt_new (w.alloc (.cells #[.int .i64 0, .int .i64 0, .int .u32 0] 32)) k n s
  rwa [show (w.alloc (.cells #[.int .i64 0, .int .i64 0, .int .u32 0] 32)).heap.size = w.heap.size + 1 by simp] at this
set_option maxRecDepth 10000 in
set_option maxHeartbeats 1000000 in
theorem put_arg (d : Value) (size : Int) (hs : size ≤ 9223372036854775807) (k : Int) (s : ByteArray) (h1 : 1 ≤ s.size) (h2 : s.size ≤ 16384) (hr : rt k (s.size : Int) size = false) (w : World) (hd : ∀ w1, Below w.heap.size w w1 → SizeIs d size w1) : Calls Tryd.prog 10 #[d, .int .i64 k, .string s] w fun e w' => e = .returned (.tuple #[refV 0 0 0, .iface 57 (.int .i64 1)]) ∧ Below w.heap.size w w' := by
  obtain ⟨p, hp⟩ : ∃ p, pgs (s.size : Int) = p := ⟨_, rfl⟩
  have hp0 : ((p : Int) == 0) = false := by
    have := pgs_nat h1 h2
    have := npg_pos h1
    simp
    omega
  have HP := Lib.hid hp
  have HS := Lib.hid hd
  have HSZ := Lib.hid (show s.size ≤ maxLen by unfold maxLen; omega)
  have HR : Hid (∀ w0 w', OldC w0 w' → Calls Tryd.prog 13 #[refV k (s.size : Int) (adl s.data.toList), .int .i64 size] w' fun e w'' => e = .returned (.bool false) ∧ OldC w0 w'') := by
    rw [← hr]
    exact right_old _ _ _ _ hs
  clear hp hd hr h1 h2 hs
  go_enter Tryd.func10, Tryd.ntmps10
  go_wp2_with fail
  refine (pages_any _ _).mono ?_
  rintro e w2 ⟨rfl, rfl⟩
  rw [HP.out]
  go_wp2_with fail
  refine (sum_any _ _ HSZ.out).mono ?_
  rintro e w2 ⟨rfl, rfl⟩
  go_wp2_with fail
  obtain ⟨W, hW, r0, r1, hb⟩ := rf_two w k (s.size : Int) (adl s.data.toList)
  rw [hW]
  have HB := Lib.hid hb
  have HS1 := Lib.hid (HS.out W hb)
  have HR0 := Lib.hid r0
  obtain ⟨i1, i2⟩ := r1.is
  clear hW hb HS r0 r1
  refine wp_region_old (by kernel_rfl) (by kernel_rfl) ?_
  repeat (go_big_quiet_step ((first | (intro hw; with_reducible exact HS1.out _ hw) | (intro hw; with_reducible exact HR.out _ _ hw))))
  refine wpQuiet_nil ?_
  intro w9 hw9
  have r9 := HR0.out.below hw9
  have c0 := r9.c0
  have c1 := r9.c1
  have c2 := r9.c2
  have f0 := r9.f0
  have f1 := r9.f1
  have f2 := r9.f2
  have HE := Lib.hid (show Below w.heap.size w w9 from HB.out.trans (Below.mono hw9 HB.out.size))
  have HR9 := Lib.hid r9
  clear hw9 HB HS1 HR0 HR r9 i1 i2
  go_wp2
  have hld := lv_rf3 HR9.out 0 0 0
  refine bodyPost_ret (v := .tuple #[refV 0 0 0, .iface 57 (.int .i64 1)]) ?_ rfl ⟨rfl, below_rf3 HE.out (Nat.le_refl _) 0 0 0⟩
  rw [results_cell2 rfl]
  simp [asAddr, Result.andThen, hld]
end Go.Proofs.YtpimclhdimcioaaDoor
