/-
  Contracts of errors.As and fail.Code at an error that is a bare number (nothing is wrapped round it): the number is found. Condition: errorType holds error's type.
-/
import Derived.Test.YtgpipljhpkhffaaDoorAs
import Derived.Deep.LoopGhost
namespace Go.Proofs.YtgpipljhpkhffaaDoor
open Go.RowKit Go.Extern.Stop Go.Stop Go.Extern

set_option maxHeartbeats 4000000 in
/-- errors.as at a bare number, the target a variable of type Errno: the number is found. -/
theorem as_no0 (n : Int) (t a : Addr) (old : Value) (w : World)
    (ha : w.cell? a = some (.pointer (some t))) (ht : w.cell? t = some old) (hf : w.frozen? t = false) :
    Calls Tryd.prog 43 #[.iface 51 (.int .i64 n), .iface 53 (.pointer (some t)), .agg #[.pointer (some ⟨2, 53, none⟩), .pointer (some a), .int .u64 150], .iface 97 (.agg #[.pointer (some ⟨2, 51, none⟩)])] w
      fun ev w' => ev = .returned (.bool true) ∧ ((w.alloc (.cells #[.pointer (some ⟨2, 53, none⟩), .pointer (some a), .int .u64 150] 74)).alloc (.cells #[.int .i64 n] 51)).setCell t (.int .i64 n) = w' := by
  have x1 := Tryd.xTypeOf
  have x2 := Tryd.xTAssign
  have x3 := Tryd.xValueOf
  have x4 := Tryd.xVElem
  have x5 := Tryd.xVSet
  have t1 := Tryd.typeOfNo
  have m1 := Tryd.methodAssignableTo
  have a1 := Tryd.assignNoNo
  have v1 := Tryd.valueOfNo
  have hal := lt_of_cell ha
  have htl := lt_of_cell ht
  have el := Tryd.elemVPNo a t (w.alloc (.cells #[.pointer (some ⟨2, 53, none⟩), .pointer (some a), .int .u64 150] 74)) (by rw [World.cell?_alloc_lt _ _ a hal]; exact ha)
  have st := Tryd.setNo t ⟨w.heap.size + 1, 0, none⟩ n old ((w.alloc (.cells #[.pointer (some ⟨2, 53, none⟩), .pointer (some a), .int .u64 150] 74)).alloc (.cells #[.int .i64 n] 51))
    (by rw [World.cell?_alloc_at _ _ _ _ (by simp)]; rfl)
    (by rw [World.cell?_alloc_lt _ _ t (by simp; omega), World.cell?_alloc_lt _ _ t htl]; exact ht)
    (by rw [World.frozen?_alloc_old _ _ t (by simp; omega), World.frozen?_alloc_old _ _ t (Nat.ne_of_lt htl)]; exact hf)
  clear ha ht hf
  go_enter Tryd.func43, Tryd.ntmps43
  go_wp2
  go_loopg [0] 0 (fun _ p wr => w.alloc (.cells #[.pointer (some ⟨2, 53, none⟩), .pointer (some a), .int .u64 150] 74) = wr ∧ p = Value.iface 51 (.int .i64 n))
  case atStart => exact ⟨rfl, rfl⟩
  case round =>
    obtain ⟨rfl, rfl⟩ := hrel
    go_wp2
    go_ret
    exact ⟨rfl, rfl⟩

set_option maxHeartbeats 4000000 in
/-- errors.As at a bare number, the target a variable of type Errno: true, the variable set. -/
theorem asNo0 (n : Int) (t : Addr) (old : Value) (w : World) (hg : EtLaid w) (ht : w.cell? t = some old) (hf : w.frozen? t = false) :
    Calls Tryd.prog 26 #[.iface 51 (.int .i64 n), .iface 53 (.pointer (some t))] w
      fun ev w' => ev = .returned (.bool true) ∧ ∃ w1, Below w.heap.size w w1 ∧ w1.setCell t (.int .i64 n) = w' := by
  have x1 := Tryd.xValueOf
  have x2 := Tryd.xVType
  have x3 := Tryd.xKind
  have x4 := Tryd.xVIsNil
  have x5 := Tryd.xTElem
  have x6 := Tryd.xTImpl
  have v1 := Tryd.valueOfPNo
  have t1 := Tryd.typePNo
  have m1 := Tryd.methodKind
  have m2 := Tryd.methodElem
  have m3 := Tryd.methodImplements
  have k1 := Tryd.kindPNo
  have k2 := Tryd.kindNo
  have e1 := Tryd.elemPNo
  have i1 := Tryd.implementsNo
  have htl := lt_of_cell ht
  have n1 := Tryd.isNilPNo ⟨w.heap.size, 0, none⟩ t ((w.alloc (.cells #[.pointer (some t)] 53)).alloc (.cells #[.pointer (some ⟨2, 53, none⟩), .pointer (some ⟨w.heap.size, 0, none⟩), .int .u64 150] 74)) (by simp)
  have hb : Below w.heap.size w ((w.alloc (.cells #[.pointer (some t)] 53)).alloc (.cells #[.pointer (some ⟨2, 53, none⟩), .pointer (some ⟨w.heap.size, 0, none⟩), .int .u64 150] 74)) := ((Below.refl _ _).alloc (Nat.le_refl _) _).alloc (by simp) _
  have hg2 : ((w.alloc (.cells #[.pointer (some t)] 53)).alloc (.cells #[.pointer (some ⟨2, 53, none⟩), .pointer (some ⟨w.heap.size, 0, none⟩), .int .u64 150] 74)).cell? ⟨0, 0, none⟩ = some (.iface 97 (.agg #[.pointer (some ⟨2, 27, none⟩)])) := hg.below hg.lt hb
  have H := as_no0 n t ⟨w.heap.size, 0, none⟩ old ((w.alloc (.cells #[.pointer (some t)] 53)).alloc (.cells #[.pointer (some ⟨2, 53, none⟩), .pointer (some ⟨w.heap.size, 0, none⟩), .int .u64 150] 74)) (by simp) ((hb.cell htl).trans ht) ((hb.frozen htl).trans hf)
  have HH := Lib.hid H
  have HB := Lib.hid hb
  clear H hb hg ht hf
  go_enter Tryd.func26, Tryd.ntmps26
  go_wp2_with (go_at_call 43; refine (HH.out).mono ?_; rintro e w' ⟨rfl, rfl⟩)
  go_ret
  exact ⟨rfl, _, ((HB.out.alloc (by simp; omega) _).alloc (by simp; omega) _), rfl⟩

set_option maxHeartbeats 1000000 in
theorem code_no (n : Int) (w : World) (hg : EtLaid w) :
    Calls Tryd.prog 10 #[.iface 51 (.int .i64 n)] w fun e w' => e = .returned (.int .i64 n) ∧ Below w.heap.size w w' := by
  have hb0 : Below w.heap.size w (w.alloc (.cells #[.int .i64 0] 51)) := (Below.refl _ _).alloc (Nat.le_refl _) _
  have HC := Lib.hid (asNo0 n ⟨w.heap.size, 0, none⟩ (.int .i64 0) (w.alloc (.cells #[.int .i64 0] 51)) (hg.below hg.lt hb0) (by simp) (by simp))
  have HB0 := Lib.hid hb0
  clear hg hb0
  go_enter Tryd.func10, Tryd.ntmps10
  go_wp2_with fail
  refine HC.out.mono ?_
  rintro e w' ⟨rfl, w1, hb1, rfl⟩
  have hc : w1.cell? ⟨w.heap.size, 0, none⟩ = some (.int .i64 0) := (hb1.cell (p := ⟨w.heap.size, 0, none⟩) (by simp)).trans (by simp)
  have hc1 : (w1.setCell ⟨w.heap.size, 0, none⟩ (.int .i64 n)).cell? ⟨w.heap.size, 0, none⟩ = some (.int .i64 n) := World.cell?_setCell_same _ _ _ hc
  have HB1 := Lib.hid hb1
  clear hb1 hc
  go_wp2
  go_ret
  exact ⟨rfl, (HB0.out.trans (HB1.out.mono (by simp))).setCell (p := ⟨w.heap.size, 0, none⟩) (Nat.le_refl _) _⟩
theorem code_zero (w : World) : Calls Tryd.prog 10 #[.nilIface] w fun e w' => e = .returned (.int .i64 0) ∧ w = w' := by
  go_enter Tryd.func10, Tryd.ntmps10
  go_wp2
  go_ret
  exact ⟨rfl, rfl⟩
end Go.Proofs.YtgpipljhpkhffaaDoor
