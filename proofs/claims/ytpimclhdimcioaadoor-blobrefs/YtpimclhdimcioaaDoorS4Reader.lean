/-
  The contracts of package code's Str and New and of a Reader's Num, Str and Left, where what is asked for lies there: what each answers, and that the reader's place alone has moved. Condition: the reader's bytes begin with what is asked for, and its size fits.
-/
import Derived.Test.YtpimclhdimcioaaDoorS4Read
import Derived.Defers
import Derived.Recover
namespace Go.Proofs.YtpimclhdimcioaaDoor
open Go.RowKit

/-- Bytes as a text. -/
def bs (l : List UInt8) : ByteArray := ⟨l.toArray⟩
theorem bs_list (l : List UInt8) : (bs l).data.toList = l := by simp [bs]
theorem bs_size (l : List UInt8) : (bs l).size = l.length := rfl
theorem bs_of {s : ByteArray} {l : List UInt8} (h : s.data.toList = l) : s = bs l := by
  apply ByteArray.ext
  rw [← Array.toList_inj, h, bs_list]
theorem bs_self (s : ByteArray) : bs s.data.toList = s := (bs_of rfl).symm
theorem bs_append (a b : List UInt8) : bs a ++ bs b = bs (a ++ b) := by
  apply bs_of
  rw [ByteArray.data_append, Array.toList_append, bs_list, bs_list]

/-- A reader in memory: its block, and the bytes that are left. -/
def Rd (w : World) (p : Nat) (s : ByteArray) : Prop := p < w.heap.size ∧ w.cell? ⟨p, 0, none⟩ = some (.string s) ∧ w.frozen? ⟨p, 0, none⟩ = false

theorem below_set {B : Nat} {w w' : World} (h : Below B w w') (a : Addr) (v : Value) : Below B (w.setCell a v) (w'.setCell a v) := by
  refine ⟨h.os, h.tape, h.output, ?_, fun k hk => ?_⟩
  · simpa [World.setCell] using h.size
  · by_cases e : k = a.block
    · simp only [World.setCell, Array.getElem?_modify, e, if_true]
      have := h.block k hk
      rw [e] at this
      rw [this]
    · rw [Below.heap_setCell _ _ _ _ e, Below.heap_setCell _ _ _ _ e]
      exact h.block k hk
theorem Rd.below {w w' : World} {p : Nat} {s : ByteArray} (h : Rd w p s) (hb : Below w.heap.size w w') : Rd w' p s :=
  ⟨Nat.lt_of_lt_of_le h.1 hb.size, (hb.cell (p := ⟨p, 0, none⟩) h.1).trans h.2.1, (hb.frozen (p := ⟨p, 0, none⟩) h.1).trans h.2.2⟩
theorem Rd.set {w : World} {p : Nat} {s : ByteArray} (h : Rd w p s) (t : ByteArray) : Rd (w.setCell ⟨p, 0, none⟩ (.string t)) p t :=
  ⟨by simpa [World.setCell] using h.1, World.cell?_setCell_same _ _ _ h.2.1, by simpa using h.2.2⟩
theorem Rd.next {w w' : World} {p : Nat} {s t : ByteArray} (h : Rd w p s) (hb : Below w.heap.size (w.setCell ⟨p, 0, none⟩ (.string t)) w') : Rd w' p t :=
  (h.set t).below (by simpa [World.setCell] using hb)
theorem below_next {B : Nat} {W w w' : World} {p : Nat} {v : Value} (h : Below B W w) (hp : B ≤ p) (hw : B ≤ w.heap.size) (hb : Below w.heap.size (w.setCell ⟨p, 0, none⟩ v) w') : Below B W w' :=
  (h.setCell (p := ⟨p, 0, none⟩) hp v).trans (hb.mono hw)

theorem drop_bs {s : ByteArray} {a rest : List UInt8} (h : s.data.toList = a ++ rest) : s.extract a.length s.size = bs rest := by
  apply bs_of
  rw [Lib.extract_data, h, List.drop_left, List.take_of_length_le]
  have := congrArg List.length h
  have h2 := Lib.size_eq s
  simp at this
  omega
theorem number_list (n : Nat) (most : Int) (s : ByteArray) (rest : List UInt8) (hs : s.data.toList = dg n ++ rest) (hz : s.size ≤ maxLen) (hn : n ≤ 4611686018427387904) (hm : (n : Int) ≤ most) (w : World) :
    Calls Tryd.prog 45 #[.string s, .int .i64 most] w fun e w' => e = .returned (.tuple #[.int .i64 (n : Int), .string (bs rest)]) ∧ Below w.heap.size w w' := by
  have := number_good n most s rest hs hz hn hm w
  rw [drop_bs hs] at this
  exact this

set_option maxHeartbeats 1000000 in
theorem num1_good (n : Nat) (most : Int) (s : ByteArray) (rest : List UInt8) (hs : s.data.toList = dg n ++ rest) (hz : s.size ≤ maxLen) (hn : n ≤ 4611686018427387904) (hm : (n : Int) ≤ most) (q : Nat) (w : World) (hq : w.cell? ⟨q, 0, none⟩ = some (.int .i64 most)) :
    Calls Tryd.prog 44 #[.string s, .pointer (some ⟨q, 0, none⟩)] w fun e w' => e = .returned (.tuple #[.int .i64 (n : Int), .string (bs rest)]) ∧ Below w.heap.size w w' := by
  have H := Lib.hid (number_list n most s rest hs hz hn hm w)
  clear hs hz hn hm
  go_enter Tryd.func44, Tryd.ntmps44
  go_wp2_with fail
  refine H.out.mono ?_
  rintro e w1 ⟨rfl, hb⟩
  have HB := Lib.hid hb
  clear hb hq
  go_wp2
  go_ret2
  exact ⟨rfl, HB.out⟩

theorem catchI_idle (p : Addr) (w : World) :
    CallsD Tryd.prog 46 #[.pointer (some p)] .returning w fun e u' w' => e = .returned (.tuple #[]) ∧ u' = .returning ∧ w' = w := by
  refine callsD_of_wpS Tryd.func46 rfl fun c₀ cs hu => ?_
  apply wpS_seq
  apply wpS_region
  simp [wpOpsS, go_sem, recoverD, hu, Tryd.ntmps46, Exit.thenS]
  apply wpS_seq
  apply wpS_seq
  apply wpS_region
  simp [wpOpsS, go_sem, Exit.thenS]
  refine wpS_cond (t := true) (by simp [Act.eval, Array.replicate]) ?_
  simp only [if_true]
  refine wpS_of_wp (wp_ret ?_)
  cases c₀
  simp_all [bodyPostS, results, Tryd.results46, Exit.thenS]
theorem fnew (w : World) (v : Value) (t : TypeId) : (w.alloc (.cells #[v] t)).cell? ⟨w.heap.size, 0, none⟩ = some v ∧ (w.alloc (.cells #[v] t)).frozen? ⟨w.heap.size, 0, none⟩ = false := ⟨by simp, by simp [go_sem]⟩

set_option maxRecDepth 10000 in
set_option maxHeartbeats 2000000 in
theorem takeI_good (n : Nat) (most : Int) (s : ByteArray) (rest : List UInt8) (hs : s.data.toList = dg n ++ rest) (hz : s.size ≤ 4611686018427387904) (hn : n ≤ 4611686018427387904) (hm : (n : Int) ≤ most) (p q : Nat) (w : World) (hp : Rd w p s) (hq : w.cell? ⟨q, 0, none⟩ = some (.int .i64 most)) (hqw : q < w.heap.size) :
    Calls Tryd.prog 43 #[.pointer (some ⟨p, 0, none⟩), .func (.func 44) #[] #[.pointer (some ⟨q, 0, none⟩)]] w fun e w' => e = .returned (.tuple #[.int .i64 (n : Int), .nilIface]) ∧ Below w.heap.size (w.setCell ⟨p, 0, none⟩ (.string (bs rest))) w' := by
  have hmf : ∀ (fn : Fn) (first cap : Array Value) (w : World), (Instr.makeFunc fn first cap).run Tryd.prog w = .ok (.func fn first cap) w := fun _ _ _ _ => rfl
  have hB : Below w.heap.size w (w.alloc (.cells #[.nilIface] 26)) := (Below.refl _ _).alloc (Nat.le_refl _) _
  have H := Lib.hid (num1_good n most s rest hs (by unfold maxLen; omega) hn hm q (w.alloc (.cells #[.nilIface] 26)) ((hB.cell (p := ⟨q, 0, none⟩) hqw).trans hq))
  have hp1 := hp.below hB
  have hc := hp1.2.1
  have HP := Lib.hid hp
  have HP1 := Lib.hid hp1
  have HB := Lib.hid hB
  have hne : ¬ p = w.heap.size := by have := hp.1; omega
  clear hp hp1 hB hs hz hn hm hq hqw
  go_enter_defers Tryd.func43, Tryd.ntmps43
  go_wp2_with fail
  refine H.out.mono ?_
  rintro e w2 ⟨rfl, hb⟩
  have hp2 := HP1.out.below hb
  have hc2 := hp2.2.1
  have hf2 := hp2.2.2
  obtain ⟨n1, n2⟩ := fnew w .nilIface 26
  have hc3 : w2.cell? ⟨w.heap.size, 0, none⟩ = some .nilIface := (hb.cell (p := ⟨w.heap.size, 0, none⟩) (by simp)).trans n1
  have hf3 : w2.frozen? ⟨w.heap.size, 0, none⟩ = false := (hb.frozen (p := ⟨w.heap.size, 0, none⟩) (by simp)).trans n2
  have HB2 := Lib.hid ((HB.out.trans (hb.mono HB.out.size)))
  clear hb n1 n2 hc hp2
  have hc4 : ((w2.setCell ⟨p, 0, none⟩ (.string (bs rest))).setCell ⟨w.heap.size, 0, none⟩ .nilIface).cell? ⟨w.heap.size, 0, none⟩ = some .nilIface :=
    World.cell?_setCell_same _ _ _ ((World.cell?_setCell_other _ _ _ _ (by simp)).trans hc3)
  have HE : Hid (Below w.heap.size (w.setCell ⟨p, 0, none⟩ (.string (bs rest))) ((w2.setCell ⟨p, 0, none⟩ (.string (bs rest))).setCell ⟨w.heap.size, 0, none⟩ .nilIface)) :=
    (below_set HB2.out _ _).setCell (p := ⟨w.heap.size, 0, none⟩) (Nat.le_refl _) _
  go_wp2
  refine leaves_cons (f := 46) (args := #[.pointer (some ⟨w.heap.size, 0, none⟩)]) (by simp) (by simp [go_sem]) ?_
  refine (catchI_idle ⟨w.heap.size, 0, none⟩ _).mono ?_
  rintro e u' w'' ⟨rfl, rfl, rfl⟩
  clear hc2 hf2 hc3 hf3
  simp [Leaves, settle, results, Tryd.results43, go_sem, hc4]
  exact HE.out

set_option maxHeartbeats 1000000 in
theorem rNum_good (n : Nat) (most : Int) (s : ByteArray) (rest : List UInt8) (hs : s.data.toList = dg n ++ rest) (hz : s.size ≤ 4611686018427387904) (hn : n ≤ 4611686018427387904) (hm : (n : Int) ≤ most) (p : Nat) (w : World) (hp : Rd w p s) :
    Calls Tryd.prog 39 #[.pointer (some ⟨p, 0, none⟩), .int .i64 most] w fun e w' => e = .returned (.tuple #[.int .i64 (n : Int), .nilIface]) ∧ Below w.heap.size (w.setCell ⟨p, 0, none⟩ (.string (bs rest))) w' := by
  have hmf : ∀ (fn : Fn) (first cap : Array Value) (w : World), (Instr.makeFunc fn first cap).run Tryd.prog w = .ok (.func fn first cap) w := fun _ _ _ _ => rfl
  have hB : Below w.heap.size w (w.alloc (.cells #[.int .i64 most] 3)) := (Below.refl _ _).alloc (Nat.le_refl _) _
  have H := Lib.hid (takeI_good n most s rest hs hz hn hm p w.heap.size (w.alloc (.cells #[.int .i64 most] 3)) (hp.below hB) (fnew w (.int .i64 most) 3).1 (by simp))
  have HB := Lib.hid hB
  clear hB hs hz hn hm hp
  go_enter Tryd.func39, Tryd.ntmps39
  go_wp2_with fail
  refine H.out.mono ?_
  rintro e w2 ⟨rfl, hb⟩
  have HE : Hid (Below w.heap.size (w.setCell ⟨p, 0, none⟩ (.string (bs rest))) w2) := (below_set HB.out _ _).trans (hb.mono (by simp))
  clear hb
  go_wp2
  go_ret2
  exact ⟨rfl, HE.out⟩

set_option maxHeartbeats 1000000 in
theorem new_any (s : ByteArray) (w : World) :
    Calls Tryd.prog 22 #[.string s] w fun e w' => e = .returned (.pointer (some ⟨w.heap.size, 0, none⟩)) ∧ Rd w' w.heap.size s ∧ Below w.heap.size w w' := by
  have HR : Hid (Rd (w.alloc (.cells #[.string s] 74)) w.heap.size s) := ⟨by simp, (fnew w (.string s) 74).1, (fnew w (.string s) 74).2⟩
  go_enter Tryd.func22, Tryd.ntmps22
  go_wp2
  go_ret
  exact ⟨rfl, HR.out, (Below.refl _ _).alloc (Nat.le_refl _) _⟩

/-- A text's bytes. -/
def strB (s : ByteArray) : ByteArray := numB s.size ++ s
theorem strB_list (s : ByteArray) : (strB s).data.toList = dg s.size ++ s.data.toList := by
  unfold strB
  rw [ByteArray.data_append, Array.toList_append, numB_list]
theorem strB_size (s : ByteArray) : (strB s).size = (dg s.size).length + s.size := by
  rw [Lib.size_eq, strB_list, List.length_append, Lib.size_eq s]

end Go.Proofs.YtpimclhdimcioaaDoor
