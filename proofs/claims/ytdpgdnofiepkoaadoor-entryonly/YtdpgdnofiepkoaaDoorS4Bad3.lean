/-
  A reader's Str at bytes that begin with no text up to the bound: ErrForm, and nothing is read; of nil. Condition: the bytes fit in memory.
-/
import Derived.Test.YtdpgdnofiepkoaaDoorS4Bad2
namespace Go.Proofs.YtdpgdnofiepkoaaDoor
open Go.RowKit

/-- Bytes that begin with no text up to most. -/
def BadS (s : ByteArray) (most : Int) : Prop := ∀ (x : ByteArray) (rest : List UInt8), s.data.toList = dg x.size ++ (x.data.toList ++ rest) → ¬ (x.size : Int) ≤ most
theorem badS_cases {s : ByteArray} {most : Int} (h : BadS s most) : Bad s most ∨ ∃ n rest, s.data.toList = dg n ++ rest ∧ n ≤ 4611686018427387904 ∧ (n : Int) ≤ most ∧ rest.length < n := by
  rcases bad_or s most with hb | ⟨n, rest, h1, h2, h3⟩
  · exact .inl hb
  · refine .inr ⟨n, rest, h1, h2, h3, Nat.lt_of_not_le fun hle => ?_⟩
    have hx : (bs (rest.take n)).size = n := by rw [bs_size, List.length_take]; omega
    refine h (bs (rest.take n)) (rest.drop n) ?_ (by rw [hx]; exact h3)
    rw [hx, bs_list, List.take_append_drop]
    exact h1
theorem badS_or (s : ByteArray) (most : Int) : BadS s most ∨ ∃ (x : ByteArray) (rest : List UInt8), s.data.toList = dg x.size ++ (x.data.toList ++ rest) ∧ (x.size : Int) ≤ most := by
  by_cases h : ∃ (x : ByteArray) (rest : List UInt8), s.data.toList = dg x.size ++ (x.data.toList ++ rest) ∧ (x.size : Int) ≤ most
  · exact .inr h
  · exact .inl fun x rest h1 h2 => h ⟨x, rest, h1, h2⟩
theorem str1_bad (most : Int) (s : ByteArray) (hb : BadS s most) (hz : s.size ≤ 4611686018427387904) (q : Nat) (w : World) (hq : w.cell? ⟨q, 0, none⟩ = some (.int .i64 most)) :
    Calls Tryd.prog 52 #[.string s, .pointer (some ⟨q, 0, none⟩)] w fun e w' => e = thrown ∧ Below w.heap.size w w' := by
  rcases badS_cases hb with hb | ⟨n, rest, h1, h2, h3, h4⟩
  · have H := Lib.hid (number_bad most s hb (by unfold maxLen; omega) w)
    clear hb hz
    go_enter Tryd.func52, Tryd.ntmps52
    go_wp2_with fail
    refine H.out.mono ?_
    rintro e w1 ⟨rfl, rfl⟩
    go_wp2
    exact ⟨rfl, rfl, Below.refl _ _⟩
  · have H := Lib.hid (number_list n most s rest h1 (by unfold maxLen; omega) h2 h3 w)
    obtain ⟨R, hR⟩ : ∃ R, bs rest = R := ⟨_, rfl⟩
    rw [hR] at H
    have HD := Lib.hid (show decide (n ≤ R.size) = false from decide_eq_false (by rw [← hR, bs_size]; omega))
    clear hb hz h1 h2 h3 h4 hR
    go_enter Tryd.func52, Tryd.ntmps52
    go_wp2_with fail
    refine H.out.mono ?_
    rintro e w1 ⟨rfl, hb⟩
    have HB := Lib.hid hb
    clear hb hq
    go_wp2_with fail
    rw [HD.out]
    refine (need_false _).mono ?_
    rintro e w2 ⟨rfl, rfl⟩
    go_wp2
    exact ⟨rfl, rfl, HB.out⟩
set_option maxRecDepth 20000 in
set_option maxHeartbeats 4000000 in
theorem catchS_thrown (p : Addr) (old : Value) (w : World) (hc : w.cell? p = some old) (hz : w.frozen? p = false) :
    CallsD Tryd.prog 57 #[.pointer (some p)] (.panicking [{ v := .iface 43 (.int .i64 13), recovered := false }]) w fun e u' w' => e = .returned (.tuple #[]) ∧ u' = .panicking [{ v := .iface 43 (.int .i64 13), recovered := true }] ∧ w' = w.setCell p (.iface 43 (.int .i64 13)) := by
  have hta : ∀ w : World, (Instr.typeAssert (.iface 43 (.int .i64 13)) 20 43 true).run Tryd.prog w = .ok (.tuple #[.int .i64 13, .bool true]) w := fun _ => by kernel_rfl
  refine callsD_of_wpS Tryd.func57 rfl fun c₀ cs hu => ?_
  apply wpS_seq
  apply wpS_region
  simp [wpOpsS, go_sem, recoverD, hu, Tryd.ntmps57, Exit.thenS]
  refine wpS_of_wp ?_
  change Code.wp _ _ _ ⟨#[.pointer (some p), .iface 43 (.int .i64 13), undef, undef, .iface 43 (.int .i64 13), undef, undef, undef, undef, undef, undef, undef, undef, undef, undef, undef, undef], []⟩ _
  go_wp2
  cases c₀
  simp_all [bodyPostS, results, Tryd.results57]

set_option maxRecDepth 10000 in
set_option maxHeartbeats 2000000 in
theorem takeS_bad (most : Int) (s : ByteArray) (hb : BadS s most) (hz : s.size ≤ 4611686018427387904) (p q : Nat) (w : World) (hp : Rd w p s) (hq : w.cell? ⟨q, 0, none⟩ = some (.int .i64 most)) (hqw : q < w.heap.size) :
    Calls Tryd.prog 51 #[.pointer (some ⟨p, 0, none⟩), .func (.func 52) #[] #[.pointer (some ⟨q, 0, none⟩)]] w fun e w' => e = .returned (.tuple #[.string ⟨#[]⟩, .iface 43 (.int .i64 13)]) ∧ Below w.heap.size w w' := by
  have hmf : ∀ (fn : Fn) (first cap : Array Value) (w : World), (Instr.makeFunc fn first cap).run Tryd.prog w = .ok (.func fn first cap) w := fun _ _ _ _ => rfl
  have hB : Below w.heap.size w (w.alloc (.cells #[.nilIface] 27)) := (Below.refl _ _).alloc (Nat.le_refl _) _
  have H := Lib.hid (str1_bad most s hb hz q (w.alloc (.cells #[.nilIface] 27)) ((hB.cell (p := ⟨q, 0, none⟩) hqw).trans hq))
  have hp1 := hp.below hB
  have hc := hp1.2.1
  have HB := Lib.hid hB
  clear hp hp1 hB hb hz hq hqw
  go_enter_defers Tryd.func51, Tryd.ntmps51
  go_wp2_with fail
  refine H.out.mono ?_
  rintro e w2 ⟨rfl, hb2⟩
  obtain ⟨n1, n2⟩ := fnew w .nilIface 27
  have hc3 : w2.cell? ⟨w.heap.size, 0, none⟩ = some .nilIface := (hb2.cell (p := ⟨w.heap.size, 0, none⟩) (by simp)).trans n1
  have hf3 : w2.frozen? ⟨w.heap.size, 0, none⟩ = false := (hb2.frozen (p := ⟨w.heap.size, 0, none⟩) (by simp)).trans n2
  have HE := Lib.hid (show Below w.heap.size w (w2.setCell ⟨w.heap.size, 0, none⟩ (.iface 43 (.int .i64 13))) from (HB.out.trans (hb2.mono (by simp))).setCell (p := ⟨w.heap.size, 0, none⟩) (Nat.le_refl _) _)
  have hc4 : (w2.setCell ⟨w.heap.size, 0, none⟩ (.iface 43 (.int .i64 13))).cell? ⟨w.heap.size, 0, none⟩ = some (.iface 43 (.int .i64 13)) := World.cell?_setCell_same _ _ _ hc3
  have HC3 := Lib.hid hc3
  have HF3 := Lib.hid hf3
  have HC4 := Lib.hid hc4
  clear hb2 n1 n2 hc3 hf3 hc4
  go_wp2
  refine leaves_cons (f := 57) (args := #[.pointer (some ⟨w.heap.size, 0, none⟩)]) (by simp) (by simp [go_sem]) ?_
  refine (catchS_thrown ⟨w.heap.size, 0, none⟩ .nilIface _ HC3.out HF3.out).mono ?_
  rintro e u' w'' ⟨rfl, rfl, rfl⟩
  have hc4 := HC4.out
  simp [Leaves, settle, results, Tryd.results51, go_sem, hc4]
  exact HE.out
theorem takeS_nil (f : Value) (w : World) :
    Calls Tryd.prog 51 #[.pointer none, f] w fun e w' => e = .returned (.tuple #[.string ⟨#[]⟩, .iface 43 (.int .i64 1)]) ∧ Below w.heap.size w w' := by
  go_enter_defers Tryd.func51, Tryd.ntmps51
  go_wp2
  simp [bodyPostD, Leaves, results, Tryd.results51, go_sem]
  exact (Below.refl _ _).alloc (Nat.le_refl _) _
set_option maxHeartbeats 1000000 in
theorem rStr_bad (most : Int) (s : ByteArray) (hb : BadS s most) (hz : s.size ≤ 4611686018427387904) (p : Nat) (w : World) (hp : Rd w p s) :
    Calls Tryd.prog 38 #[.pointer (some ⟨p, 0, none⟩), .int .i64 most] w fun e w' => e = .returned (.tuple #[.string ⟨#[]⟩, .iface 43 (.int .i64 13)]) ∧ Below w.heap.size w w' := by
  have hmf : ∀ (fn : Fn) (first cap : Array Value) (w : World), (Instr.makeFunc fn first cap).run Tryd.prog w = .ok (.func fn first cap) w := fun _ _ _ _ => rfl
  have hB : Below w.heap.size w (w.alloc (.cells #[.int .i64 most] 3)) := (Below.refl _ _).alloc (Nat.le_refl _) _
  have H := Lib.hid (takeS_bad most s hb hz p w.heap.size (w.alloc (.cells #[.int .i64 most] 3)) (hp.below hB) (fnew w (.int .i64 most) 3).1 (by simp))
  have HB := Lib.hid hB
  clear hB hb hz hp
  go_enter Tryd.func38, Tryd.ntmps38
  go_wp2_with fail
  refine H.out.mono ?_
  rintro e w2 ⟨rfl, hb⟩
  have HE := Lib.hid (HB.out.trans (hb.mono (by simp)))
  clear hb
  go_wp2
  go_ret2
  exact ⟨rfl, HE.out⟩
set_option maxHeartbeats 1000000 in
theorem rStr_nil (most : Int) (w : World) :
    Calls Tryd.prog 38 #[.pointer none, .int .i64 most] w fun e w' => e = .returned (.tuple #[.string ⟨#[]⟩, .iface 43 (.int .i64 1)]) ∧ Below w.heap.size w w' := by
  have hmf : ∀ (fn : Fn) (first cap : Array Value) (w : World), (Instr.makeFunc fn first cap).run Tryd.prog w = .ok (.func fn first cap) w := fun _ _ _ _ => rfl
  have HB := Lib.hid (show Below w.heap.size w (w.alloc (.cells #[.int .i64 most] 3)) from (Below.refl _ _).alloc (Nat.le_refl _) _)
  go_enter Tryd.func38, Tryd.ntmps38
  go_wp2_with fail
  refine (takeS_nil _ _).mono ?_
  rintro e w2 ⟨rfl, hb⟩
  have HE := Lib.hid (HB.out.trans (hb.mono (by simp)))
  clear hb
  go_wp2
  go_ret2
  exact ⟨rfl, HE.out⟩
end Go.Proofs.YtdpgdnofiepkoaaDoor
