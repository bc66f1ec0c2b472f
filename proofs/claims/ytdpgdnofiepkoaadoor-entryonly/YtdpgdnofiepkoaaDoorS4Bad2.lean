/-
  A reader's Num at bytes that begin with no number up to the bound: ErrForm, and nothing is read. Condition: the bytes fit in memory.
-/
import Derived.Test.YtdpgdnofiepkoaaDoorS4Bad
namespace Go.Proofs.YtdpgdnofiepkoaaDoor
open Go.RowKit

set_option maxRecDepth 20000 in
set_option maxHeartbeats 4000000 in
theorem catchI_thrown (p : Addr) (old : Value) (w : World) (hc : w.cell? p = some old) (hz : w.frozen? p = false) :
    CallsD Tryd.prog 56 #[.pointer (some p)] (.panicking [{ v := .iface 43 (.int .i64 13), recovered := false }]) w fun e u' w' => e = .returned (.tuple #[]) ∧ u' = .panicking [{ v := .iface 43 (.int .i64 13), recovered := true }] ∧ w' = w.setCell p (.iface 43 (.int .i64 13)) := by
  have hta : ∀ w : World, (Instr.typeAssert (.iface 43 (.int .i64 13)) 20 43 true).run Tryd.prog w = .ok (.tuple #[.int .i64 13, .bool true]) w := fun _ => by kernel_rfl
  refine callsD_of_wpS Tryd.func56 rfl fun c₀ cs hu => ?_
  apply wpS_seq
  apply wpS_region
  simp [wpOpsS, go_sem, recoverD, hu, Tryd.ntmps56, Exit.thenS]
  refine wpS_of_wp ?_
  change Code.wp _ _ _ ⟨#[.pointer (some p), .iface 43 (.int .i64 13), undef, undef, .iface 43 (.int .i64 13), undef, undef, undef, undef, undef, undef, undef, undef, undef, undef, undef, undef], []⟩ _
  go_wp2
  cases c₀
  simp_all [bodyPostS, results, Tryd.results56]

set_option maxRecDepth 10000 in
set_option maxHeartbeats 2000000 in
theorem takeI_bad (most : Int) (s : ByteArray) (hb : Bad s most) (hz : s.size ≤ 4611686018427387904) (p q : Nat) (w : World) (hp : Rd w p s) (hq : w.cell? ⟨q, 0, none⟩ = some (.int .i64 most)) (hqw : q < w.heap.size) :
    Calls Tryd.prog 48 #[.pointer (some ⟨p, 0, none⟩), .func (.func 49) #[] #[.pointer (some ⟨q, 0, none⟩)]] w fun e w' => e = .returned (.tuple #[.int .i64 0, .iface 43 (.int .i64 13)]) ∧ Below w.heap.size w w' := by
  have hmf : ∀ (fn : Fn) (first cap : Array Value) (w : World), (Instr.makeFunc fn first cap).run Tryd.prog w = .ok (.func fn first cap) w := fun _ _ _ _ => rfl
  have hB : Below w.heap.size w (w.alloc (.cells #[.nilIface] 27)) := (Below.refl _ _).alloc (Nat.le_refl _) _
  have H := Lib.hid (num1_bad most s hb (by unfold maxLen; omega) q (w.alloc (.cells #[.nilIface] 27)) ((hB.cell (p := ⟨q, 0, none⟩) hqw).trans hq))
  have hp1 := hp.below hB
  have hc := hp1.2.1
  have HB := Lib.hid hB
  clear hp hp1 hB hb hz hq hqw
  obtain ⟨n1, n2⟩ := fnew w .nilIface 27
  have N1 := Lib.hid n1
  have N2 := Lib.hid n2
  clear n1 n2
  go_enter_defers Tryd.func48, Tryd.ntmps48
  go_wp2_with fail
  refine H.out.mono ?_
  rintro e w2 ⟨rfl, rfl⟩
  go_wp2
  refine leaves_cons (f := 56) (args := #[.pointer (some ⟨w.heap.size, 0, none⟩)]) (by simp) (by simp [go_sem]) ?_
  refine (catchI_thrown ⟨w.heap.size, 0, none⟩ .nilIface _ N1.out N2.out).mono ?_
  rintro e u' w'' ⟨rfl, rfl, rfl⟩
  simp [Leaves, settle, results, Tryd.results48, go_sem]
  exact (Below.refl _ _).alloc (Nat.le_refl _) _
theorem takeI_nil (f : Value) (w : World) :
    Calls Tryd.prog 48 #[.pointer none, f] w fun e w' => e = .returned (.tuple #[.int .i64 0, .iface 43 (.int .i64 1)]) ∧ Below w.heap.size w w' := by
  go_enter_defers Tryd.func48, Tryd.ntmps48
  go_wp2
  simp [bodyPostD, Leaves, results, Tryd.results48, go_sem]
  exact (Below.refl _ _).alloc (Nat.le_refl _) _
set_option maxHeartbeats 1000000 in
theorem rNum_bad (most : Int) (s : ByteArray) (hb : Bad s most) (hz : s.size ≤ 4611686018427387904) (p : Nat) (w : World) (hp : Rd w p s) :
    Calls Tryd.prog 37 #[.pointer (some ⟨p, 0, none⟩), .int .i64 most] w fun e w' => e = .returned (.tuple #[.int .i64 0, .iface 43 (.int .i64 13)]) ∧ Below w.heap.size w w' := by
  have hmf : ∀ (fn : Fn) (first cap : Array Value) (w : World), (Instr.makeFunc fn first cap).run Tryd.prog w = .ok (.func fn first cap) w := fun _ _ _ _ => rfl
  have hB : Below w.heap.size w (w.alloc (.cells #[.int .i64 most] 3)) := (Below.refl _ _).alloc (Nat.le_refl _) _
  have H := Lib.hid (takeI_bad most s hb hz p w.heap.size (w.alloc (.cells #[.int .i64 most] 3)) (hp.below hB) (fnew w (.int .i64 most) 3).1 (by simp))
  have HB := Lib.hid hB
  clear hB hb hz hp
  go_enter Tryd.func37, Tryd.ntmps37
  go_wp2_with fail
  refine H.out.mono ?_
  rintro e w2 ⟨rfl, hb⟩
  have HE := Lib.hid (HB.out.trans (hb.mono (by simp)))
  clear hb
  go_wp2
  go_ret2
  exact ⟨rfl, HE.out⟩
set_option maxHeartbeats 1000000 in
theorem rNum_nil (most : Int) (w : World) :
    Calls Tryd.prog 37 #[.pointer none, .int .i64 most] w fun e w' => e = .returned (.tuple #[.int .i64 0, .iface 43 (.int .i64 1)]) ∧ Below w.heap.size w w' := by
  have hmf : ∀ (fn : Fn) (first cap : Array Value) (w : World), (Instr.makeFunc fn first cap).run Tryd.prog w = .ok (.func fn first cap) w := fun _ _ _ _ => rfl
  have HB := Lib.hid (show Below w.heap.size w (w.alloc (.cells #[.int .i64 most] 3)) from (Below.refl _ _).alloc (Nat.le_refl _) _)
  go_enter Tryd.func37, Tryd.ntmps37
  go_wp2_with fail
  refine (takeI_nil _ _).mono ?_
  rintro e w2 ⟨rfl, hb⟩
  have HE := Lib.hid (HB.out.trans (hb.mono (by simp)))
  clear hb
  go_wp2
  go_ret2
  exact ⟨rfl, HE.out⟩
/-- Bytes begin with a number up to most, or don't. -/
theorem bad_or (s : ByteArray) (most : Int) : Bad s most ∨ ∃ n rest, s.data.toList = dg n ++ rest ∧ n ≤ 4611686018427387904 ∧ (n : Int) ≤ most := by
  by_cases h : ∃ n rest, s.data.toList = dg n ++ rest ∧ n ≤ 4611686018427387904 ∧ (n : Int) ≤ most
  · exact .inr h
  · exact .inl fun n rest h1 h2 h3 => h ⟨n, rest, h1, h2, h3⟩
end Go.Proofs.YtdpgdnofiepkoaaDoor
