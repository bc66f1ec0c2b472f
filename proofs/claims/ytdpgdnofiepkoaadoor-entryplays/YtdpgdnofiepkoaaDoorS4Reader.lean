/-
  The contracts of package code's Str and New and of a Reader's Num, Str and Left, where what is asked for lies there: what each answers, and that the reader's place alone has moved. Condition: the reader's bytes begin with what is asked for, and its size fits.
-/
import Derived.Test.YtdpgdnofiepkoaaDoorS4Read
import Derived.Test.YtdpgdnofiepkoaaDoorBs
import Derived.Defers
import Derived.Recover
namespace Go.Proofs.YtdpgdnofiepkoaaDoor
open Go.RowKit

/-- A reader in memory: its block, and the bytes that are left. -/
def Rd (w : World) (p : Nat) (s : ByteArray) : Prop := p < w.heap.size ∧ w.cell? ⟨p, 0, none⟩ = some (.string s) ∧ w.frozen? ⟨p, 0, none⟩ = false

theorem below_set {B : Nat} {w w' : World} (h : Below B w w') (a : Addr) (v : Value) : Below B (w.setCell a v) (w'.setCell a v) := by
  refine ⟨h.os, h.tape, h.output, ?_, fun k hk => ?_⟩
  · simpa [World.setCell] using h.size
  · by_cases e : k = a.block
    · simp only [World.setCell, Array.getElem?_modify, e, if_true]
      have := h.block k hk
      rw [e] at this
      rw [this]
    · rw [Below.heap_setCell _ _ _ _ e, Below.heap_setCell _ _ _ _ e]
      exact h.block k hk
theorem Rd.below {w w' : World} {p : Nat} {s : ByteArray} (h : Rd w p s) (hb : Below w.heap.size w w') : Rd w' p s :=
  ⟨Nat.lt_of_lt_of_le h.1 hb.size, (hb.cell (p := ⟨p, 0, none⟩) h.1).trans h.2.1, (hb.frozen (p := ⟨p, 0, none⟩) h.1).trans h.2.2⟩
theorem Rd.set {w : World} {p : Nat} {s : ByteArray} (h : Rd w p s) (t : ByteArray) : Rd (w.setCell ⟨p, 0, none⟩ (.string t)) p t :=
  ⟨by simpa [World.setCell] using h.1, World.cell?_setCell_same _ _ _ h.2.1, by simpa using h.2.2⟩
theorem Rd.next {w w' : World} {p : Nat} {s t : ByteArray} (h : Rd w p s) (hb : Below w.heap.size (w.setCell ⟨p, 0, none⟩ (.string t)) w') : Rd w' p t :=
  (h.set t).below (by simpa [World.setCell] using hb)
theorem below_next {B : Nat} {W w w' : World} {p : Nat} {v : Value} (h : Below B W w) (hp : B ≤ p) (hw : B ≤ w.heap.size) (hb : Below w.heap.size (w.setCell ⟨p, 0, none⟩ v) w') : Below B W w' :=
  (h.setCell (p := ⟨p, 0, none⟩) hp v).trans (hb.mono hw)

theorem drop_bs {s : ByteArray} {a rest : List UInt8} (h : s.data.toList = a ++ rest) : s.extract a.length s.size = bs rest := by
  apply bs_of
  rw [Lib.extract_data, h, List.drop_left, List.take_of_length_le]
  have := congrArg List.length h
  have h2 := Lib.size_eq s
  simp at this
  omega
theorem number_list (n : Nat) (most : Int) (s : ByteArray) (rest : List UInt8) (hs : s.data.toList = dg n ++ rest) (hz : s.size ≤ maxLen) (hn : n ≤ 4611686018427387904) (hm : (n : Int) ≤ most) (w : World) :
    Calls Tryd.prog 50 #[.string s, .int .i64 most] w fun e w' => e = .returned (.tuple #[.int .i64 (n : Int), .string (bs rest)]) ∧ Below w.heap.size w w' := by
  have := number_good n most s rest hs hz hn hm w
  rw [drop_bs hs] at this
  exact this

set_option maxHeartbeats 1000000 in
theorem num1_good (n : Nat) (most : Int) (s : ByteArray) (rest : List UInt8) (hs : s.data.toList = dg n ++ rest) (hz : s.size ≤ maxLen) (hn : n ≤ 4611686018427387904) (hm : (n : Int) ≤ most) (q : Nat) (w : World) (hq : w.cell? ⟨q, 0, none⟩ = some (.int .i64 most)) :
    Calls Tryd.prog 49 #[.string s, .pointer (some ⟨q, 0, none⟩)] w fun e w' => e = .returned (.tuple #[.int .i64 (n : Int), .string (bs rest)]) ∧ Below w.heap.size w w' := by
  have H := Lib.hid (number_list n most s rest hs hz hn hm w)
  clear hs hz hn hm
  go_enter Tryd.func49, Tryd.ntmps49
  go_wp2_with fail
  refine H.out.mono ?_
  rintro e w1 ⟨rfl, hb⟩
  have HB := Lib.hid hb
  clear hb hq
  go_wp2
  go_ret2
  exact ⟨rfl, HB.out⟩

set_option maxRecDepth 10000 in
set_option maxHeartbeats 1000000 in
theorem str1_good (x : ByteArray) (most : Int) (s : ByteArray) (rest : List UInt8) (hs : s.data.toList = dg x.size ++ (x.data.toList ++ rest)) (hz : s.size ≤ 4611686018427387904) (hm : (x.size : Int) ≤ most) (q : Nat) (w : World) (hq : w.cell? ⟨q, 0, none⟩ = some (.int .i64 most)) :
    Calls Tryd.prog 52 #[.string s, .pointer (some ⟨q, 0, none⟩)] w fun e w' => e = .returned (.tuple #[.string x, .string (bs rest)]) ∧ Below w.heap.size w w' := by
  have hx : x.size ≤ s.size := by
    have := congrArg List.length hs
    have h2 := Lib.size_eq s
    have h3 := Lib.size_eq x
    simp at this
    omega
  have H := Lib.hid (number_list x.size most s _ hs (by unfold maxLen; omega) (Nat.le_trans hx hz) hm w)
  obtain ⟨R, hR⟩ : ∃ R, bs (x.data.toList ++ rest) = R := ⟨_, rfl⟩
  rw [hR] at H
  have hRl : R.data.toList = x.data.toList ++ rest := by rw [← hR, bs_list]
  have hRs : x.size ≤ R.size := by
    have := congrArg List.length hRl
    have h2 := Lib.size_eq R
    have h3 := Lib.size_eq x
    simp at this
    omega
  have hRz : R.size ≤ 4611686018427387904 := by
    have := congrArg List.length hRl
    have h4 := congrArg List.length hs
    have h2 := Lib.size_eq R
    have h3 := Lib.size_eq s
    simp at this h4
    omega
  have e1 : R.extract 0 x.size = x := by
    have h3 := Lib.size_eq x
    rw [← bs_self x]
    apply bs_of
    rw [Lib.extract_data, hRl, List.drop_zero, Nat.sub_zero, bs_size, List.take_left]
  have e2 : R.extract x.size R.size = bs rest := by
    rw [Lib.size_eq x]
    exact drop_bs hRl
  have hle : (x.size : Int) ≤ (R.size : Int) := by omega
  clear hs hz hm hx hR hRl
  go_enter Tryd.func52, Tryd.ntmps52
  go_wp2_with fail
  refine H.out.mono ?_
  rintro e w1 ⟨rfl, hb⟩
  have HB := Lib.hid hb
  clear hb hq
  go_wp2_with fail
  refine (need_true _).mono ?_
  rintro e w2 ⟨rfl, rfl⟩
  go_wp2
  go_quiet (fail)
  go_wp2
  go_ret2
  exact ⟨rfl, below_drewN HB.out _⟩

theorem catchI_idle (p : Addr) (w : World) :
    CallsD Tryd.prog 56 #[.pointer (some p)] .returning w fun e u' w' => e = .returned (.tuple #[]) ∧ u' = .returning ∧ w' = w := by
  refine callsD_of_wpS Tryd.func56 rfl fun c₀ cs hu => ?_
  apply wpS_seq
  apply wpS_region
  simp [wpOpsS, go_sem, recoverD, hu, Tryd.ntmps56, Exit.thenS]
  apply wpS_seq
  apply wpS_seq
  apply wpS_region
  simp [wpOpsS, go_sem, Exit.thenS]
  refine wpS_cond (t := true) (by simp [Act.eval, Array.replicate]) ?_
  simp only [if_true]
  refine wpS_of_wp (wp_ret ?_)
  cases c₀
  simp_all [bodyPostS, results, Tryd.results56, Exit.thenS]
theorem catchS_idle (p : Addr) (w : World) :
    CallsD Tryd.prog 57 #[.pointer (some p)] .returning w fun e u' w' => e = .returned (.tuple #[]) ∧ u' = .returning ∧ w' = w := by
  refine callsD_of_wpS Tryd.func57 rfl fun c₀ cs hu => ?_
  apply wpS_seq
  apply wpS_region
  simp [wpOpsS, go_sem, recoverD, hu, Tryd.ntmps57, Exit.thenS]
  apply wpS_seq
  apply wpS_seq
  apply wpS_region
  simp [wpOpsS, go_sem, Exit.thenS]
  refine wpS_cond (t := true) (by simp [Act.eval, Array.replicate]) ?_
  simp only [if_true]
  refine wpS_of_wp (wp_ret ?_)
  cases c₀
  simp_all [bodyPostS, results, Tryd.results57, Exit.thenS]

theorem fnew (w : World) (v : Value) (t : TypeId) : (w.alloc (.cells #[v] t)).cell? ⟨w.heap.size, 0, none⟩ = some v ∧ (w.alloc (.cells #[v] t)).frozen? ⟨w.heap.size, 0, none⟩ = false := ⟨by simp, by simp [go_sem]⟩

set_option maxRecDepth 10000 in
set_option maxHeartbeats 2000000 in
theorem takeI_good (n : Nat) (most : Int) (s : ByteArray) (rest : List UInt8) (hs : s.data.toList = dg n ++ rest) (hz : s.size ≤ 4611686018427387904) (hn : n ≤ 4611686018427387904) (hm : (n : Int) ≤ most) (p q : Nat) (w : World) (hp : Rd w p s) (hq : w.cell? ⟨q, 0, none⟩ = some (.int .i64 most)) (hqw : q < w.heap.size) :
    Calls Tryd.prog 48 #[.pointer (some ⟨p, 0, none⟩), .func (.func 49) #[] #[.pointer (some ⟨q, 0, none⟩)]] w fun e w' => e = .returned (.tuple #[.int .i64 (n : Int), .nilIface]) ∧ Below w.heap.size (w.setCell ⟨p, 0, none⟩ (.string (bs rest))) w' := by
  have hmf : ∀ (fn : Fn) (first cap : Array Value) (w : World), (Instr.makeFunc fn first cap).run Tryd.prog w = .ok (.func fn first cap) w := fun _ _ _ _ => rfl
  have hB : Below w.heap.size w (w.alloc (.cells #[.nilIface] 27)) := (Below.refl _ _).alloc (Nat.le_refl _) _
  have H := Lib.hid (num1_good n most s rest hs (by unfold maxLen; omega) hn hm q (w.alloc (.cells #[.nilIface] 27)) ((hB.cell (p := ⟨q, 0, none⟩) hqw).trans hq))
  have hp1 := hp.below hB
  have hc := hp1.2.1
  have HP := Lib.hid hp
  have HP1 := Lib.hid hp1
  have HB := Lib.hid hB
  have hne : ¬ p = w.heap.size := by have := hp.1; omega
  clear hp hp1 hB hs hz hn hm hq hqw
  go_enter_defers Tryd.func48, Tryd.ntmps48
  go_wp2_with fail
  refine H.out.mono ?_
  rintro e w2 ⟨rfl, hb⟩
  have hp2 := HP1.out.below hb
  have hc2 := hp2.2.1
  have hf2 := hp2.2.2
  obtain ⟨n1, n2⟩ := fnew w .nilIface 27
  have hc3 : w2.cell? ⟨w.heap.size, 0, none⟩ = some .nilIface := (hb.cell (p := ⟨w.heap.size, 0, none⟩) (by simp)).trans n1
  have hf3 : w2.frozen? ⟨w.heap.size, 0, none⟩ = false := (hb.frozen (p := ⟨w.heap.size, 0, none⟩) (by simp)).trans n2
  have HB2 := Lib.hid ((HB.out.trans (hb.mono HB.out.size)))
  clear hb n1 n2 hc hp2
  have hc4 : ((w2.setCell ⟨p, 0, none⟩ (.string (bs rest))).setCell ⟨w.heap.size, 0, none⟩ .nilIface).cell? ⟨w.heap.size, 0, none⟩ = some .nilIface :=
    World.cell?_setCell_same _ _ _ ((World.cell?_setCell_other _ _ _ _ (by simp)).trans hc3)
  have HE : Hid (Below w.heap.size (w.setCell ⟨p, 0, none⟩ (.string (bs rest))) ((w2.setCell ⟨p, 0, none⟩ (.string (bs rest))).setCell ⟨w.heap.size, 0, none⟩ .nilIface)) :=
    (below_set HB2.out _ _).setCell (p := ⟨w.heap.size, 0, none⟩) (Nat.le_refl _) _
  go_wp2
  refine leaves_cons (f := 56) (args := #[.pointer (some ⟨w.heap.size, 0, none⟩)]) (by simp) (by simp [go_sem]) ?_
  refine (catchI_idle ⟨w.heap.size, 0, none⟩ _).mono ?_
  rintro e u' w'' ⟨rfl, rfl, rfl⟩
  clear hc2 hf2 hc3 hf3
  simp [Leaves, settle, results, Tryd.results48, go_sem, hc4]
  exact HE.out

set_option maxRecDepth 10000 in
set_option maxHeartbeats 2000000 in
theorem takeS_good (x : ByteArray) (most : Int) (s : ByteArray) (rest : List UInt8) (hs : s.data.toList = dg x.size ++ (x.data.toList ++ rest)) (hz : s.size ≤ 4611686018427387904) (hm : (x.size : Int) ≤ most) (p q : Nat) (w : World) (hp : Rd w p s) (hq : w.cell? ⟨q, 0, none⟩ = some (.int .i64 most)) (hqw : q < w.heap.size) :
    Calls Tryd.prog 51 #[.pointer (some ⟨p, 0, none⟩), .func (.func 52) #[] #[.pointer (some ⟨q, 0, none⟩)]] w fun e w' => e = .returned (.tuple #[.string x, .nilIface]) ∧ Below w.heap.size (w.setCell ⟨p, 0, none⟩ (.string (bs rest))) w' := by
  have hmf : ∀ (fn : Fn) (first cap : Array Value) (w : World), (Instr.makeFunc fn first cap).run Tryd.prog w = .ok (.func fn first cap) w := fun _ _ _ _ => rfl
  have hB : Below w.heap.size w (w.alloc (.cells #[.nilIface] 27)) := (Below.refl _ _).alloc (Nat.le_refl _) _
  have H := Lib.hid (str1_good x most s rest hs hz hm q (w.alloc (.cells #[.nilIface] 27)) ((hB.cell (p := ⟨q, 0, none⟩) hqw).trans hq))
  have hp1 := hp.below hB
  have hc := hp1.2.1
  have HP := Lib.hid hp
  have HP1 := Lib.hid hp1
  have HB := Lib.hid hB
  have hne : ¬ p = w.heap.size := by have := hp.1; omega
  clear hp hp1 hB hs hz hm hq hqw
  go_enter_defers Tryd.func51, Tryd.ntmps51
  go_wp2_with fail
  refine H.out.mono ?_
  rintro e w2 ⟨rfl, hb⟩
  have hp2 := HP1.out.below hb
  have hc2 := hp2.2.1
  have hf2 := hp2.2.2
  obtain ⟨n1, n2⟩ := fnew w .nilIface 27
  have hc3 : w2.cell? ⟨w.heap.size, 0, none⟩ = some .nilIface := (hb.cell (p := ⟨w.heap.size, 0, none⟩) (by simp)).trans n1
  have hf3 : w2.frozen? ⟨w.heap.size, 0, none⟩ = false := (hb.frozen (p := ⟨w.heap.size, 0, none⟩) (by simp)).trans n2
  have HB2 := Lib.hid ((HB.out.trans (hb.mono HB.out.size)))
  clear hb n1 n2 hc hp2
  have hc4 : ((w2.setCell ⟨p, 0, none⟩ (.string (bs rest))).setCell ⟨w.heap.size, 0, none⟩ .nilIface).cell? ⟨w.heap.size, 0, none⟩ = some .nilIface :=
    World.cell?_setCell_same _ _ _ ((World.cell?_setCell_other _ _ _ _ (by simp)).trans hc3)
  have HE : Hid (Below w.heap.size (w.setCell ⟨p, 0, none⟩ (.string (bs rest))) ((w2.setCell ⟨p, 0, none⟩ (.string (bs rest))).setCell ⟨w.heap.size, 0, none⟩ .nilIface)) :=
    (below_set HB2.out _ _).setCell (p := ⟨w.heap.size, 0, none⟩) (Nat.le_refl _) _
  go_wp2
  refine leaves_cons (f := 57) (args := #[.pointer (some ⟨w.heap.size, 0, none⟩)]) (by simp) (by simp [go_sem]) ?_
  refine (catchS_idle ⟨w.heap.size, 0, none⟩ _).mono ?_
  rintro e u' w'' ⟨rfl, rfl, rfl⟩
  clear hc2 hf2 hc3 hf3
  simp [Leaves, settle, results, Tryd.results51, go_sem, hc4]
  exact HE.out


set_option maxHeartbeats 1000000 in
theorem rNum_good (n : Nat) (most : Int) (s : ByteArray) (rest : List UInt8) (hs : s.data.toList = dg n ++ rest) (hz : s.size ≤ 4611686018427387904) (hn : n ≤ 4611686018427387904) (hm : (n : Int) ≤ most) (p : Nat) (w : World) (hp : Rd w p s) :
    Calls Tryd.prog 37 #[.pointer (some ⟨p, 0, none⟩), .int .i64 most] w fun e w' => e = .returned (.tuple #[.int .i64 (n : Int), .nilIface]) ∧ Below w.heap.size (w.setCell ⟨p, 0, none⟩ (.string (bs rest))) w' := by
  have hmf : ∀ (fn : Fn) (first cap : Array Value) (w : World), (Instr.makeFunc fn first cap).run Tryd.prog w = .ok (.func fn first cap) w := fun _ _ _ _ => rfl
  have hB : Below w.heap.size w (w.alloc (.cells #[.int .i64 most] 3)) := (Below.refl _ _).alloc (Nat.le_refl _) _
  have H := Lib.hid (takeI_good n most s rest hs hz hn hm p w.heap.size (w.alloc (.cells #[.int .i64 most] 3)) (hp.below hB) (fnew w (.int .i64 most) 3).1 (by simp))
  have HB := Lib.hid hB
  clear hB hs hz hn hm hp
  go_enter Tryd.func37, Tryd.ntmps37
  go_wp2_with fail
  refine H.out.mono ?_
  rintro e w2 ⟨rfl, hb⟩
  have HE : Hid (Below w.heap.size (w.setCell ⟨p, 0, none⟩ (.string (bs rest))) w2) := (below_set HB.out _ _).trans (hb.mono (by simp))
  clear hb
  go_wp2
  go_ret2
  exact ⟨rfl, HE.out⟩

set_option maxHeartbeats 1000000 in
theorem rStr_good (x : ByteArray) (most : Int) (s : ByteArray) (rest : List UInt8) (hs : s.data.toList = dg x.size ++ (x.data.toList ++ rest)) (hz : s.size ≤ 4611686018427387904) (hm : (x.size : Int) ≤ most) (p : Nat) (w : World) (hp : Rd w p s) :
    Calls Tryd.prog 38 #[.pointer (some ⟨p, 0, none⟩), .int .i64 most] w fun e w' => e = .returned (.tuple #[.string x, .nilIface]) ∧ Below w.heap.size (w.setCell ⟨p, 0, none⟩ (.string (bs rest))) w' := by
  have hmf : ∀ (fn : Fn) (first cap : Array Value) (w : World), (Instr.makeFunc fn first cap).run Tryd.prog w = .ok (.func fn first cap) w := fun _ _ _ _ => rfl
  have hB : Below w.heap.size w (w.alloc (.cells #[.int .i64 most] 3)) := (Below.refl _ _).alloc (Nat.le_refl _) _
  have H := Lib.hid (takeS_good x most s rest hs hz hm p w.heap.size (w.alloc (.cells #[.int .i64 most] 3)) (hp.below hB) (fnew w (.int .i64 most) 3).1 (by simp))
  have HB := Lib.hid hB
  clear hB hs hz hm hp
  go_enter Tryd.func38, Tryd.ntmps38
  go_wp2_with fail
  refine H.out.mono ?_
  rintro e w2 ⟨rfl, hb⟩
  have HE : Hid (Below w.heap.size (w.setCell ⟨p, 0, none⟩ (.string (bs rest))) w2) := (below_set HB.out _ _).trans (hb.mono (by simp))
  clear hb
  go_wp2
  go_ret2
  exact ⟨rfl, HE.out⟩

set_option maxHeartbeats 1000000 in
theorem left_any (s : ByteArray) (p : Nat) (w : World) (hp : Rd w p s) :
    Calls Tryd.prog 16 #[.pointer (some ⟨p, 0, none⟩)] w fun e w' => e = .returned (.int .i64 (s.size : Int)) ∧ w = w' := by
  have hc := hp.2.1
  clear hp
  go_enter Tryd.func16, Tryd.ntmps16
  go_wp2
  go_ret
  exact ⟨rfl, rfl⟩

set_option maxHeartbeats 1000000 in
theorem new_any (s : ByteArray) (w : World) :
    Calls Tryd.prog 14 #[.string s] w fun e w' => e = .returned (.pointer (some ⟨w.heap.size, 0, none⟩)) ∧ Rd w' w.heap.size s ∧ Below w.heap.size w w' := by
  have HR : Hid (Rd (w.alloc (.cells #[.string s] 49)) w.heap.size s) := ⟨by simp, (fnew w (.string s) 49).1, (fnew w (.string s) 49).2⟩
  go_enter Tryd.func14, Tryd.ntmps14
  go_wp2
  go_ret
  exact ⟨rfl, HR.out, (Below.refl _ _).alloc (Nat.le_refl _) _⟩

/-- A text's bytes. -/
def strB (s : ByteArray) : ByteArray := numB s.size ++ s
theorem strB_list (s : ByteArray) : (strB s).data.toList = dg s.size ++ s.data.toList := by
  unfold strB
  rw [ByteArray.data_append, Array.toList_append, numB_list]
theorem strB_size (s : ByteArray) : (strB s).size = (dg s.size).length + s.size := by
  rw [Lib.size_eq, strB_list, List.length_append, Lib.size_eq s]

set_option maxHeartbeats 1000000 in
theorem str_any (s : ByteArray) (hz : s.size ≤ 4611686018427387904) (w : World) :
    Calls Tryd.prog 25 #[.string s] w fun e w' => e = .returned (.string (strB s)) ∧ Below w.heap.size w w' := by
  have h9 := numB_size_nine hz
  have hsum : ¬ 9223372036854775807 < (numB s.size).size + s.size := by omega
  have HZ := Lib.hid hz
  clear hz
  go_enter Tryd.func25, Tryd.ntmps25
  go_wp2_with fail
  refine (num_any s.size HZ.out _).mono ?_
  rintro e w2 ⟨rfl, hb⟩
  have HB := Lib.hid hb
  clear hb
  go_wp2
  go_ret
  exact ⟨rfl, HB.out⟩
end Go.Proofs.YtdpgdnofiepkoaaDoor
