/-
  Contracts of errors.As and errors.Is over an error chain (a number, wrapped by Faults): the number is found; a Fault is found; another number isn't. Conditions: the chain lies in memory; for errors.As the package variable errorType holds error's type.
-/
import Derived.Test.YtlnjbadbpddlmaaDoorRefl
import Derived.Test.YtlnjbadbpddlmaaDoorEt
import Derived.Lib.Hide
namespace Go.Proofs.YtlnjbadbpddlmaaDoor
open Go.RowKit Go.Extern.Stop Go.Stop Go.Extern

theorem Chain.iface /- of a Fault, 105 -/ {w : World} {n : Int} : ∀ {l : List (ByteArray × ByteArray)} {v : Value}, Chain w n l v → ∃ u x, v = .iface u x
  | [], _, h => ⟨_, _, h⟩
  | _ :: _, _, ⟨_, _, h, _⟩ => ⟨_, _, h⟩

theorem Tryd.xTypeOf (args : Array Value) (w : World) : (callFunc 48 args).run Tryd.prog w = ((ReflectliteType.typeOf args).run Tryd.prog w).andThen fun v w' => .ok (.value v) w' :=
  @run_callFunc_extern Tryd.prog 48 _ ReflectliteType.typeOf Tryd.func48 (by kernel_rfl) (by kernel_rfl) (by kernel_rfl) (by kernel_rfl) args w
theorem Tryd.xValueOf (args : Array Value) (w : World) : (callFunc 32 args).run Tryd.prog w = ((ReflectliteValue.unpack (args.getD 0 (.tuple #[]))).run Tryd.prog w).andThen fun v w' => .ok (.value v) w' :=
  @run_callFunc_extern Tryd.prog 32 _ (fun args => ReflectliteValue.unpack (args.getD 0 (.tuple #[]))) Tryd.func32 (by kernel_rfl) (by kernel_rfl) (by kernel_rfl) (by kernel_rfl) args w
theorem Tryd.xVType (args : Array Value) (w : World) : (callFunc 33 args).run Tryd.prog w = (((ReflectliteValue.methodAny (ReflectliteValue.valueError "reflectlite.Value.Type" 0) (fun t _ _ _ => ReflectliteType.toType t)) args).run Tryd.prog w).andThen fun v w' => .ok (.value v) w' :=
  @run_callFunc_extern Tryd.prog 33 _ (ReflectliteValue.methodAny (ReflectliteValue.valueError "reflectlite.Value.Type" 0) (fun t _ _ _ => ReflectliteType.toType t)) Tryd.func33 (by kernel_rfl) (by kernel_rfl) (by kernel_rfl) (by kernel_rfl) args w
theorem Tryd.xVIsNil (args : Array Value) (w : World) : (callFunc 34 args).run Tryd.prog w = (((ReflectliteValue.method (ReflectliteValue.valueError "reflectlite.Value.IsNil" 0) ReflectliteValue.isNil) args).run Tryd.prog w).andThen fun v w' => .ok (.value v) w' :=
  @run_callFunc_extern Tryd.prog 34 _ (ReflectliteValue.method (ReflectliteValue.valueError "reflectlite.Value.IsNil" 0) ReflectliteValue.isNil) Tryd.func34 (by kernel_rfl) (by kernel_rfl) (by kernel_rfl) (by kernel_rfl) args w
theorem Tryd.xKind (args : Array Value) (w : World) : (callFunc 88 args).run Tryd.prog w = (((ReflectliteType.abiMethod fun t => do pure (.int .u8 (← Rtype.kind t))) args).run Tryd.prog w).andThen fun v w' => .ok (.value v) w' :=
  @run_callFunc_extern Tryd.prog 88 _ (ReflectliteType.abiMethod fun t => do pure (.int .u8 (← Rtype.kind t))) Tryd.func88 (by kernel_rfl) (by kernel_rfl) (by kernel_rfl) (by kernel_rfl) args w
theorem Tryd.xTElem (args : Array Value) (w : World) : (callFunc 98 args).run Tryd.prog w = (((ReflectliteType.method ReflectliteType.elem) args).run Tryd.prog w).andThen fun v w' => .ok (.value v) w' :=
  @run_callFunc_extern Tryd.prog 98 _ (ReflectliteType.method ReflectliteType.elem) Tryd.func98 (by kernel_rfl) (by kernel_rfl) (by kernel_rfl) (by kernel_rfl) args w
theorem Tryd.xTImpl (args : Array Value) (w : World) : (callFunc 99 args).run Tryd.prog w = (((ReflectliteType.relation "Implements" ReflectliteType.implements_) args).run Tryd.prog w).andThen fun v w' => .ok (.value v) w' :=
  @run_callFunc_extern Tryd.prog 99 _ (ReflectliteType.relation "Implements" ReflectliteType.implements_) Tryd.func99 (by kernel_rfl) (by kernel_rfl) (by kernel_rfl) (by kernel_rfl) args w
theorem Tryd.xTAssign (args : Array Value) (w : World) : (callFunc 96 args).run Tryd.prog w = (((ReflectliteType.relation "AssignableTo" ReflectliteType.assignableTo) args).run Tryd.prog w).andThen fun v w' => .ok (.value v) w' :=
  @run_callFunc_extern Tryd.prog 96 _ (ReflectliteType.relation "AssignableTo" ReflectliteType.assignableTo) Tryd.func96 (by kernel_rfl) (by kernel_rfl) (by kernel_rfl) (by kernel_rfl) args w
theorem Tryd.xTComp (args : Array Value) (w : World) : (callFunc 97 args).run Tryd.prog w = (((Extern.ReflectliteType.method fun t => do Rtype.noPackHeld "Comparable" t; pure (.bool (← typeInfo t).comparable)) args).run Tryd.prog w).andThen fun v w' => .ok (.value v) w' :=
  @run_callFunc_extern Tryd.prog 97 _ (Extern.ReflectliteType.method fun t => do Rtype.noPackHeld "Comparable" t; pure (.bool (← typeInfo t).comparable)) Tryd.func97 (by kernel_rfl) (by kernel_rfl) (by kernel_rfl) (by kernel_rfl) args w
theorem Tryd.xVElem (args : Array Value) (w : World) : (callFunc 49 args).run Tryd.prog w = (((ReflectliteValue.method (ReflectliteValue.valueError "reflectlite.Value.Elem" 0) ReflectliteValue.elem) args).run Tryd.prog w).andThen fun v w' => .ok (.value v) w' :=
  @run_callFunc_extern Tryd.prog 49 _ (ReflectliteValue.method (ReflectliteValue.valueError "reflectlite.Value.Elem" 0) ReflectliteValue.elem) Tryd.func49 (by kernel_rfl) (by kernel_rfl) (by kernel_rfl) (by kernel_rfl) args w
theorem Tryd.xVSet (args : Array Value) (w : World) : (callFunc 50 args).run Tryd.prog w = ((ReflectliteValue.set args).run Tryd.prog w).andThen fun v w' => .ok (.value v) w' :=
  @run_callFunc_extern Tryd.prog 50 _ ReflectliteValue.set Tryd.func50 (by kernel_rfl) (by kernel_rfl) (by kernel_rfl) (by kernel_rfl) args w

theorem Tryd.runComp (w : World) : ((Extern.ReflectliteType.method fun t => do Rtype.noPackHeld "Comparable" t; pure (.bool (← typeInfo t).comparable)) #[.agg #[.pointer (some ⟨2, 46, none⟩)]]).run Tryd.prog w = .ok (.bool true) w := by kernel_rfl
theorem Tryd.callComp (w : World) : (callFunc 97 #[.agg #[.pointer (some ⟨2, 46, none⟩)]]).run Tryd.prog w = .ok (.value (.bool true)) w := by
  rw [Tryd.xTComp, Tryd.runComp]; rfl

set_option maxHeartbeats 4000000 in
/-- errors.as along a chain, the target a variable of type Errno: the number is found. -/
theorem as_no /- of a Fault, 105 -/ (l : List (ByteArray × ByteArray)) (n : Int) (v : Value) (t a : Addr) (old : Value) (w : World) (hch : Chain w n l v)
    (ha : w.cell? a = some (.pointer (some t))) (ht : w.cell? t = some old) (hf : w.frozen? t = false) :
    Calls Tryd.prog 35 #[v, .iface 54 (.pointer (some t)), .agg #[.pointer (some ⟨2, 54, none⟩), .pointer (some a), .int .u64 150], .iface 86 (.agg #[.pointer (some ⟨2, 46, none⟩)])] w
      fun ev w' => ev = .returned (.bool true) ∧ ((w.alloc (.cells #[.pointer (some ⟨2, 54, none⟩), .pointer (some a), .int .u64 150] 66)).alloc (.cells #[.int .i64 n] 46)).setCell t (.int .i64 n) = w' := by
  have x1 := Tryd.xTypeOf
  have x2 := Tryd.xTAssign
  have x3 := Tryd.xValueOf
  have x4 := Tryd.xVElem
  have x5 := Tryd.xVSet
  have t1 := Tryd.typeOfNo
  have t2 := Tryd.typeOfFa
  have m1 := Tryd.methodAssignableTo
  have m2 := Tryd.methodUnwrap
  have a1 := Tryd.assignNoNo
  have a2 := Tryd.assignFaNo
  have v1 := Tryd.valueOfNo
  have s1 := Tryd.noAsFa
  have s2 := Tryd.hasUnFa
  have hal := lt_of_cell ha
  have htl := lt_of_cell ht
  have el := Tryd.elemVPNo a t (w.alloc (.cells #[.pointer (some ⟨2, 54, none⟩), .pointer (some a), .int .u64 150] 66)) (by rw [World.cell?_alloc_lt _ _ a hal]; exact ha)
  have st := Tryd.setNo t ⟨w.heap.size + 1, 0, none⟩ n old ((w.alloc (.cells #[.pointer (some ⟨2, 54, none⟩), .pointer (some a), .int .u64 150] 66)).alloc (.cells #[.int .i64 n] 46))
    (by rw [World.cell?_alloc_at _ _ _ _ (by simp)]; rfl)
    (by rw [World.cell?_alloc_lt _ _ t (by simp; omega), World.cell?_alloc_lt _ _ t htl]; exact ht)
    (by rw [World.frozen?_alloc_old _ _ t (by simp; omega), World.frozen?_alloc_old _ _ t (Nat.ne_of_lt htl)]; exact hf)
  have hch1 : Chain (w.alloc (.cells #[.pointer (some ⟨2, 54, none⟩), .pointer (some a), .int .u64 150] 66)) n l v := hch.below ((Below.refl _ _).alloc (Nat.le_refl _) _)
  clear hch ha ht hf
  go_enter Tryd.func35, Tryd.ntmps35
  go_wp2
  go_loopg [0] l.length (fun k p wr => w.alloc (.cells #[.pointer (some ⟨2, 54, none⟩), .pointer (some a), .int .u64 150] 66) = wr ∧ ∃ r, r.length = k ∧ Chain (w.alloc (.cells #[.pointer (some ⟨2, 54, none⟩), .pointer (some a), .int .u64 150] 66)) n r p)
  case atStart => exact ⟨rfl, l, rfl, hch1⟩
  case round =>
    clear hch1
    obtain ⟨rfl, r, hk, hr⟩ := hrel
    cases r with
    | nil =>
      obtain rfl : _ = Value.iface 46 (.int .i64 n) := hr
      go_wp2
      go_ret
      exact ⟨rfl, rfl⟩
    | cons x r =>
      obtain ⟨b, v', rfl, h2, h3, h4, h5, h6⟩ := hr
      obtain ⟨u, y, rfl⟩ := h6.iface
      have A : Aside (r.length + 1 = gk ∧ Chain (w.alloc (.cells #[.pointer (some ⟨2, 54, none⟩), .pointer (some a), .int .u64 150] 66)) n r (.iface u y)) := ⟨hk, h6⟩
      clear hk h6 h3 h4
      go_wp2
      go_roundg r.length
      case measure => have := A.out.1; omega
      case rel => exact ⟨rfl, r, rfl, A.out.2⟩

set_option maxHeartbeats 4000000 in
/-- errors.As at a chain, the target a variable of type Errno: true, the variable set; four new blocks. -/
theorem asNo /- of a Fault, 105 -/ (l : List (ByteArray × ByteArray)) (n : Int) (v : Value) (t : Addr) (old : Value) (w : World) (hch : Chain w n l v) (hg : EtLaid w) (ht : w.cell? t = some old) (hf : w.frozen? t = false) :
    Calls Tryd.prog 23 #[v, .iface 54 (.pointer (some t))] w
      fun ev w' => ev = .returned (.bool true) ∧ ((((w.alloc (.cells #[.pointer (some t)] 54)).alloc (.cells #[.pointer (some ⟨2, 54, none⟩), .pointer (some ⟨w.heap.size, 0, none⟩), .int .u64 150] 66)).alloc (.cells #[.pointer (some ⟨2, 54, none⟩), .pointer (some ⟨w.heap.size, 0, none⟩), .int .u64 150] 66)).alloc (.cells #[.int .i64 n] 46)).setCell t (.int .i64 n) = w' := by
  have x1 := Tryd.xValueOf
  have x2 := Tryd.xVType
  have x3 := Tryd.xKind
  have x4 := Tryd.xVIsNil
  have x5 := Tryd.xTElem
  have x6 := Tryd.xTImpl
  have v1 := Tryd.valueOfPNo
  have t1 := Tryd.typePNo
  have m1 := Tryd.methodKind
  have m2 := Tryd.methodElem
  have m3 := Tryd.methodImplements
  have k1 := Tryd.kindPNo
  have k2 := Tryd.kindNo
  have e1 := Tryd.elemPNo
  have i1 := Tryd.implementsNo
  have htl := lt_of_cell ht
  have n1 := Tryd.isNilPNo ⟨w.heap.size, 0, none⟩ t ((w.alloc (.cells #[.pointer (some t)] 54)).alloc (.cells #[.pointer (some ⟨2, 54, none⟩), .pointer (some ⟨w.heap.size, 0, none⟩), .int .u64 150] 66)) (by simp)
  have hb : Below w.heap.size w ((w.alloc (.cells #[.pointer (some t)] 54)).alloc (.cells #[.pointer (some ⟨2, 54, none⟩), .pointer (some ⟨w.heap.size, 0, none⟩), .int .u64 150] 66)) := ((Below.refl _ _).alloc (Nat.le_refl _) _).alloc (by simp) _
  have hg2 : ((w.alloc (.cells #[.pointer (some t)] 54)).alloc (.cells #[.pointer (some ⟨2, 54, none⟩), .pointer (some ⟨w.heap.size, 0, none⟩), .int .u64 150] 66)).cell? ⟨0, 0, none⟩ = some (.iface 86 (.agg #[.pointer (some ⟨2, 28, none⟩)])) := hg.below hg.lt hb
  have H := as_no l n v t ⟨w.heap.size, 0, none⟩ old ((w.alloc (.cells #[.pointer (some t)] 54)).alloc (.cells #[.pointer (some ⟨2, 54, none⟩), .pointer (some ⟨w.heap.size, 0, none⟩), .int .u64 150] 66)) (hch.below hb) (by simp) ((hb.cell htl).trans ht) ((hb.frozen htl).trans hf)
  have HH := Lib.hid H
  obtain ⟨u, y, rfl⟩ := hch.iface
  clear H hb hch hg ht hf
  go_enter Tryd.func23, Tryd.ntmps23
  go_wp2_with (go_at_call 35; refine (HH.out).mono ?_; rintro e w' ⟨rfl, rfl⟩)
  go_ret
  exact ⟨rfl, rfl⟩
end Go.Proofs.YtlnjbadbpddlmaaDoor
