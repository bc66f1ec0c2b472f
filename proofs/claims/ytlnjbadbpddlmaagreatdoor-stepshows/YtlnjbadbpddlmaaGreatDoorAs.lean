/-
  Contracts of errors.As and errors.Is over an error chain (a number, wrapped by Faults): the number is found; a Fault is found; another number isn't. Conditions: the chain lies in memory; for errors.As the package variable errorType holds error's type.
-/
import Derived.Test.YtlnjbadbpddlmaaGreatDoorRefl
import Derived.Test.YtlnjbadbpddlmaaGreatDoorEt
import Derived.Lib.Hide
namespace Go.Proofs.YtlnjbadbpddlmaaGreatDoor
open Go.RowKit Go.Extern.Stop Go.Stop Go.Extern

theorem Chain.iface /- of a Fault, 123 -/ {w : World} {n : Int} : ∀ {l : List (ByteArray × ByteArray)} {v : Value}, Chain w n l v → ∃ u x, v = .iface u x
  | [], _, h => ⟨_, _, h⟩
  | _ :: _, _, ⟨_, _, h, _⟩ => ⟨_, _, h⟩

theorem Tryz.xTypeOf (args : Array Value) (w : World) : (callFunc 38 args).run Tryz.prog w = ((ReflectliteType.typeOf args).run Tryz.prog w).andThen fun v w' => .ok (.value v) w' :=
  @run_callFunc_extern Tryz.prog 38 _ ReflectliteType.typeOf Tryz.func38 (by kernel_rfl) (by kernel_rfl) (by kernel_rfl) (by kernel_rfl) args w
theorem Tryz.xValueOf (args : Array Value) (w : World) : (callFunc 24 args).run Tryz.prog w = ((ReflectliteValue.unpack (args.getD 0 (.tuple #[]))).run Tryz.prog w).andThen fun v w' => .ok (.value v) w' :=
  @run_callFunc_extern Tryz.prog 24 _ (fun args => ReflectliteValue.unpack (args.getD 0 (.tuple #[]))) Tryz.func24 (by kernel_rfl) (by kernel_rfl) (by kernel_rfl) (by kernel_rfl) args w
theorem Tryz.xVType (args : Array Value) (w : World) : (callFunc 25 args).run Tryz.prog w = (((ReflectliteValue.methodAny (ReflectliteValue.valueError "reflectlite.Value.Type" 0) (fun t _ _ _ => ReflectliteType.toType t)) args).run Tryz.prog w).andThen fun v w' => .ok (.value v) w' :=
  @run_callFunc_extern Tryz.prog 25 _ (ReflectliteValue.methodAny (ReflectliteValue.valueError "reflectlite.Value.Type" 0) (fun t _ _ _ => ReflectliteType.toType t)) Tryz.func25 (by kernel_rfl) (by kernel_rfl) (by kernel_rfl) (by kernel_rfl) args w
theorem Tryz.xVIsNil (args : Array Value) (w : World) : (callFunc 26 args).run Tryz.prog w = (((ReflectliteValue.method (ReflectliteValue.valueError "reflectlite.Value.IsNil" 0) ReflectliteValue.isNil) args).run Tryz.prog w).andThen fun v w' => .ok (.value v) w' :=
  @run_callFunc_extern Tryz.prog 26 _ (ReflectliteValue.method (ReflectliteValue.valueError "reflectlite.Value.IsNil" 0) ReflectliteValue.isNil) Tryz.func26 (by kernel_rfl) (by kernel_rfl) (by kernel_rfl) (by kernel_rfl) args w
theorem Tryz.xKind (args : Array Value) (w : World) : (callFunc 111 args).run Tryz.prog w = (((ReflectliteType.abiMethod fun t => do pure (.int .u8 (← Rtype.kind t))) args).run Tryz.prog w).andThen fun v w' => .ok (.value v) w' :=
  @run_callFunc_extern Tryz.prog 111 _ (ReflectliteType.abiMethod fun t => do pure (.int .u8 (← Rtype.kind t))) Tryz.func111 (by kernel_rfl) (by kernel_rfl) (by kernel_rfl) (by kernel_rfl) args w
theorem Tryz.xTElem (args : Array Value) (w : World) : (callFunc 122 args).run Tryz.prog w = (((ReflectliteType.method ReflectliteType.elem) args).run Tryz.prog w).andThen fun v w' => .ok (.value v) w' :=
  @run_callFunc_extern Tryz.prog 122 _ (ReflectliteType.method ReflectliteType.elem) Tryz.func122 (by kernel_rfl) (by kernel_rfl) (by kernel_rfl) (by kernel_rfl) args w
theorem Tryz.xTImpl (args : Array Value) (w : World) : (callFunc 123 args).run Tryz.prog w = (((ReflectliteType.relation "Implements" ReflectliteType.implements_) args).run Tryz.prog w).andThen fun v w' => .ok (.value v) w' :=
  @run_callFunc_extern Tryz.prog 123 _ (ReflectliteType.relation "Implements" ReflectliteType.implements_) Tryz.func123 (by kernel_rfl) (by kernel_rfl) (by kernel_rfl) (by kernel_rfl) args w
theorem Tryz.xTAssign (args : Array Value) (w : World) : (callFunc 120 args).run Tryz.prog w = (((ReflectliteType.relation "AssignableTo" ReflectliteType.assignableTo) args).run Tryz.prog w).andThen fun v w' => .ok (.value v) w' :=
  @run_callFunc_extern Tryz.prog 120 _ (ReflectliteType.relation "AssignableTo" ReflectliteType.assignableTo) Tryz.func120 (by kernel_rfl) (by kernel_rfl) (by kernel_rfl) (by kernel_rfl) args w
theorem Tryz.xTComp (args : Array Value) (w : World) : (callFunc 121 args).run Tryz.prog w = (((Extern.ReflectliteType.method fun t => do Rtype.noPackHeld "Comparable" t; pure (.bool (← typeInfo t).comparable)) args).run Tryz.prog w).andThen fun v w' => .ok (.value v) w' :=
  @run_callFunc_extern Tryz.prog 121 _ (Extern.ReflectliteType.method fun t => do Rtype.noPackHeld "Comparable" t; pure (.bool (← typeInfo t).comparable)) Tryz.func121 (by kernel_rfl) (by kernel_rfl) (by kernel_rfl) (by kernel_rfl) args w
theorem Tryz.xVElem (args : Array Value) (w : World) : (callFunc 39 args).run Tryz.prog w = (((ReflectliteValue.method (ReflectliteValue.valueError "reflectlite.Value.Elem" 0) ReflectliteValue.elem) args).run Tryz.prog w).andThen fun v w' => .ok (.value v) w' :=
  @run_callFunc_extern Tryz.prog 39 _ (ReflectliteValue.method (ReflectliteValue.valueError "reflectlite.Value.Elem" 0) ReflectliteValue.elem) Tryz.func39 (by kernel_rfl) (by kernel_rfl) (by kernel_rfl) (by kernel_rfl) args w
theorem Tryz.xVSet (args : Array Value) (w : World) : (callFunc 40 args).run Tryz.prog w = ((ReflectliteValue.set args).run Tryz.prog w).andThen fun v w' => .ok (.value v) w' :=
  @run_callFunc_extern Tryz.prog 40 _ ReflectliteValue.set Tryz.func40 (by kernel_rfl) (by kernel_rfl) (by kernel_rfl) (by kernel_rfl) args w

theorem Tryz.runComp (w : World) : ((Extern.ReflectliteType.method fun t => do Rtype.noPackHeld "Comparable" t; pure (.bool (← typeInfo t).comparable)) #[.agg #[.pointer (some ⟨2, 43, none⟩)]]).run Tryz.prog w = .ok (.bool true) w := by kernel_rfl
theorem Tryz.callComp (w : World) : (callFunc 121 #[.agg #[.pointer (some ⟨2, 43, none⟩)]]).run Tryz.prog w = .ok (.value (.bool true)) w := by
  rw [Tryz.xTComp, Tryz.runComp]; rfl

set_option maxHeartbeats 4000000 in
/-- errors.as along a chain, the target a variable of type Errno: the number is found. -/
theorem as_no /- of a Fault, 123 -/ (l : List (ByteArray × ByteArray)) (n : Int) (v : Value) (t a : Addr) (old : Value) (w : World) (hch : Chain w n l v)
    (ha : w.cell? a = some (.pointer (some t))) (ht : w.cell? t = some old) (hf : w.frozen? t = false) :
    Calls Tryz.prog 27 #[v, .iface 48 (.pointer (some t)), .agg #[.pointer (some ⟨2, 48, none⟩), .pointer (some a), .int .u64 150], .iface 79 (.agg #[.pointer (some ⟨2, 43, none⟩)])] w
      fun ev w' => ev = .returned (.bool true) ∧ ((w.alloc (.cells #[.pointer (some ⟨2, 48, none⟩), .pointer (some a), .int .u64 150] 58)).alloc (.cells #[.int .i64 n] 43)).setCell t (.int .i64 n) = w' := by
  have x1 := Tryz.xTypeOf
  have x2 := Tryz.xTAssign
  have x3 := Tryz.xValueOf
  have x4 := Tryz.xVElem
  have x5 := Tryz.xVSet
  have t1 := Tryz.typeOfNo
  have t2 := Tryz.typeOfFa
  have m1 := Tryz.methodAssignableTo
  have m2 := Tryz.methodUnwrap
  have a1 := Tryz.assignNoNo
  have a2 := Tryz.assignFaNo
  have v1 := Tryz.valueOfNo
  have s1 := Tryz.noAsFa
  have s2 := Tryz.hasUnFa
  have hal := lt_of_cell ha
  have htl := lt_of_cell ht
  have el := Tryz.elemVPNo a t (w.alloc (.cells #[.pointer (some ⟨2, 48, none⟩), .pointer (some a), .int .u64 150] 58)) (by rw [World.cell?_alloc_lt _ _ a hal]; exact ha)
  have st := Tryz.setNo t ⟨w.heap.size + 1, 0, none⟩ n old ((w.alloc (.cells #[.pointer (some ⟨2, 48, none⟩), .pointer (some a), .int .u64 150] 58)).alloc (.cells #[.int .i64 n] 43))
    (by rw [World.cell?_alloc_at _ _ _ _ (by simp)]; rfl)
    (by rw [World.cell?_alloc_lt _ _ t (by simp; omega), World.cell?_alloc_lt _ _ t htl]; exact ht)
    (by rw [World.frozen?_alloc_old _ _ t (by simp; omega), World.frozen?_alloc_old _ _ t (Nat.ne_of_lt htl)]; exact hf)
  have hch1 : Chain (w.alloc (.cells #[.pointer (some ⟨2, 48, none⟩), .pointer (some a), .int .u64 150] 58)) n l v := hch.below ((Below.refl _ _).alloc (Nat.le_refl _) _)
  clear hch ha ht hf
  go_enter Tryz.func27, Tryz.ntmps27
  go_wp2
  go_loopg [0] l.length (fun k p wr => w.alloc (.cells #[.pointer (some ⟨2, 48, none⟩), .pointer (some a), .int .u64 150] 58) = wr ∧ ∃ r, r.length = k ∧ Chain (w.alloc (.cells #[.pointer (some ⟨2, 48, none⟩), .pointer (some a), .int .u64 150] 58)) n r p)
  case atStart => exact ⟨rfl, l, rfl, hch1⟩
  case round =>
    clear hch1
    obtain ⟨rfl, r, hk, hr⟩ := hrel
    cases r with
    | nil =>
      obtain rfl : _ = Value.iface 43 (.int .i64 n) := hr
      go_wp2
      go_ret
      exact ⟨rfl, rfl⟩
    | cons x r =>
      obtain ⟨b, v', rfl, h2, h3, h4, h5, h6⟩ := hr
      obtain ⟨u, y, rfl⟩ := h6.iface
      have A : Aside (r.length + 1 = gk ∧ Chain (w.alloc (.cells #[.pointer (some ⟨2, 48, none⟩), .pointer (some a), .int .u64 150] 58)) n r (.iface u y)) := ⟨hk, h6⟩
      clear hk h6 h3 h4
      go_wp2
      go_roundg r.length
      case measure => have := A.out.1; omega
      case rel => exact ⟨rfl, r, rfl, A.out.2⟩

set_option maxHeartbeats 4000000 in
/-- errors.As at a chain, the target a variable of type Errno: true, the variable set; four new blocks. -/
theorem asNo /- of a Fault, 123 -/ (l : List (ByteArray × ByteArray)) (n : Int) (v : Value) (t : Addr) (old : Value) (w : World) (hch : Chain w n l v) (hg : EtLaid w) (ht : w.cell? t = some old) (hf : w.frozen? t = false) :
    Calls Tryz.prog 16 #[v, .iface 48 (.pointer (some t))] w
      fun ev w' => ev = .returned (.bool true) ∧ ((((w.alloc (.cells #[.pointer (some t)] 48)).alloc (.cells #[.pointer (some ⟨2, 48, none⟩), .pointer (some ⟨w.heap.size, 0, none⟩), .int .u64 150] 58)).alloc (.cells #[.pointer (some ⟨2, 48, none⟩), .pointer (some ⟨w.heap.size, 0, none⟩), .int .u64 150] 58)).alloc (.cells #[.int .i64 n] 43)).setCell t (.int .i64 n) = w' := by
  have x1 := Tryz.xValueOf
  have x2 := Tryz.xVType
  have x3 := Tryz.xKind
  have x4 := Tryz.xVIsNil
  have x5 := Tryz.xTElem
  have x6 := Tryz.xTImpl
  have v1 := Tryz.valueOfPNo
  have t1 := Tryz.typePNo
  have m1 := Tryz.methodKind
  have m2 := Tryz.methodElem
  have m3 := Tryz.methodImplements
  have k1 := Tryz.kindPNo
  have k2 := Tryz.kindNo
  have e1 := Tryz.elemPNo
  have i1 := Tryz.implementsNo
  have htl := lt_of_cell ht
  have n1 := Tryz.isNilPNo ⟨w.heap.size, 0, none⟩ t ((w.alloc (.cells #[.pointer (some t)] 48)).alloc (.cells #[.pointer (some ⟨2, 48, none⟩), .pointer (some ⟨w.heap.size, 0, none⟩), .int .u64 150] 58)) (by simp)
  have hb : Below w.heap.size w ((w.alloc (.cells #[.pointer (some t)] 48)).alloc (.cells #[.pointer (some ⟨2, 48, none⟩), .pointer (some ⟨w.heap.size, 0, none⟩), .int .u64 150] 58)) := ((Below.refl _ _).alloc (Nat.le_refl _) _).alloc (by simp) _
  have hg2 : ((w.alloc (.cells #[.pointer (some t)] 48)).alloc (.cells #[.pointer (some ⟨2, 48, none⟩), .pointer (some ⟨w.heap.size, 0, none⟩), .int .u64 150] 58)).cell? ⟨0, 0, none⟩ = some (.iface 79 (.agg #[.pointer (some ⟨2, 29, none⟩)])) := hg.below hg.lt hb
  have H := as_no l n v t ⟨w.heap.size, 0, none⟩ old ((w.alloc (.cells #[.pointer (some t)] 48)).alloc (.cells #[.pointer (some ⟨2, 48, none⟩), .pointer (some ⟨w.heap.size, 0, none⟩), .int .u64 150] 58)) (hch.below hb) (by simp) ((hb.cell htl).trans ht) ((hb.frozen htl).trans hf)
  have HH := Lib.hid H
  obtain ⟨u, y, rfl⟩ := hch.iface
  clear H hb hch hg ht hf
  go_enter Tryz.func16, Tryz.ntmps16
  go_wp2_with (go_at_call 27; refine (HH.out).mono ?_; rintro e w' ⟨rfl, rfl⟩)
  go_ret
  exact ⟨rfl, rfl⟩
end Go.Proofs.YtlnjbadbpddlmaaGreatDoor
