/-
  A reader's Str at bytes that begin with no text up to the bound: ErrForm, and nothing is read; of nil. Condition: the bytes fit in memory.
  Contracts of package entry's Lay and Read: of an entry that is right, and of one that isn't; of any bytes, and of nil. Conditions: the texts' sizes fit.
  Contracts of package entry's parts: a kind, a path and data, right or not, if they stand there; else ErrForm; of nil. Condition: the bytes fit in memory.
  Contracts of package entry's Read: the next entry, if there is one that is right; else ErrForm; of nil. Condition: the bytes fit in memory.
  Contracts of the document's own Join of names (package shaleref03) and Parent of a path (package shaleref09). Conditions: six names at most, each of eight bytes at most; a path that is not the root's.
-/
import Derived.Test.YtflomllfehoedaaDoorPk3
import Derived.Test.YtflomllfehoedaaDoorS3RefS
import Derived.Test.YtflomllfehoedaaDoorBs
import Derived.Deep.LoopGhost
import Derived.Lib.Hide
import Derived.IntWalk
namespace Go.Proofs.YtflomllfehoedaaDoor
open Go.RowKit

/-- Bytes that begin with no text up to most. -/
def BadS (s : ByteArray) (most : Int) : Prop := ∀ (x : ByteArray) (rest : List UInt8), s.data.toList = dg x.size ++ (x.data.toList ++ rest) → ¬ (x.size : Int) ≤ most
theorem badS_cases {s : ByteArray} {most : Int} (h : BadS s most) : Bad s most ∨ ∃ n rest, s.data.toList = dg n ++ rest ∧ n ≤ 4611686018427387904 ∧ (n : Int) ≤ most ∧ rest.length < n := by
  rcases bad_or s most with hb | ⟨n, rest, h1, h2, h3⟩
  · exact .inl hb
  · refine .inr ⟨n, rest, h1, h2, h3, Nat.lt_of_not_le fun hle => ?_⟩
    have hx : (bs (rest.take n)).size = n := by rw [bs_size, List.length_take]; omega
    refine h (bs (rest.take n)) (rest.drop n) ?_ (by rw [hx]; exact h3)
    rw [hx, bs_list, List.take_append_drop]
    exact h1
theorem badS_or (s : ByteArray) (most : Int) : BadS s most ∨ ∃ (x : ByteArray) (rest : List UInt8), s.data.toList = dg x.size ++ (x.data.toList ++ rest) ∧ (x.size : Int) ≤ most := by
  by_cases h : ∃ (x : ByteArray) (rest : List UInt8), s.data.toList = dg x.size ++ (x.data.toList ++ rest) ∧ (x.size : Int) ≤ most
  · exact .inr h
  · exact .inl fun x rest h1 h2 => h ⟨x, rest, h1, h2⟩
theorem str1_bad (most : Int) (s : ByteArray) (hb : BadS s most) (hz : s.size ≤ 4611686018427387904) (q : Nat) (w : World) (hq : w.cell? ⟨q, 0, none⟩ = some (.int .i64 most)) :
    Calls Tryd.prog 90 #[.string s, .pointer (some ⟨q, 0, none⟩)] w fun e w' => e = thrown ∧ Below w.heap.size w w' := by
  rcases badS_cases hb with hb | ⟨n, rest, h1, h2, h3, h4⟩
  · have H := Lib.hid (number_bad most s hb (by unfold maxLen; omega) w)
    clear hb hz
    go_enter Tryd.func90, Tryd.ntmps90
    go_wp2_with fail
    refine H.out.mono ?_
    rintro e w1 ⟨rfl, rfl⟩
    go_wp2
    exact ⟨rfl, rfl, Below.refl _ _⟩
  · have H := Lib.hid (number_list n most s rest h1 (by unfold maxLen; omega) h2 h3 w)
    obtain ⟨R, hR⟩ : ∃ R, bs rest = R := ⟨_, rfl⟩
    rw [hR] at H
    have HD := Lib.hid (show decide (n ≤ R.size) = false from decide_eq_false (by rw [← hR, bs_size]; omega))
    clear hb hz h1 h2 h3 h4 hR
    go_enter Tryd.func90, Tryd.ntmps90
    go_wp2_with fail
    refine H.out.mono ?_
    rintro e w1 ⟨rfl, hb⟩
    have HB := Lib.hid hb
    clear hb hq
    go_wp2_with fail
    rw [HD.out]
    refine (need_false _).mono ?_
    rintro e w2 ⟨rfl, rfl⟩
    go_wp2
    exact ⟨rfl, rfl, HB.out⟩
set_option maxRecDepth 20000 in
set_option maxHeartbeats 4000000 in
theorem catchS_thrown (p : Addr) (old : Value) (w : World) (hc : w.cell? p = some old) (hz : w.frozen? p = false) :
    CallsD Tryd.prog 95 #[.pointer (some p)] (.panicking [{ v := .iface 52 (.int .i64 13), recovered := false }]) w fun e u' w' => e = .returned (.tuple #[]) ∧ u' = .panicking [{ v := .iface 52 (.int .i64 13), recovered := true }] ∧ w' = w.setCell p (.iface 52 (.int .i64 13)) := by
  have hta : ∀ w : World, (Instr.typeAssert (.iface 52 (.int .i64 13)) 20 52 true).run Tryd.prog w = .ok (.tuple #[.int .i64 13, .bool true]) w := fun _ => by kernel_rfl
  refine callsD_of_wpS Tryd.func95 rfl fun c₀ cs hu => ?_
  apply wpS_seq
  apply wpS_region
  simp [wpOpsS, go_sem, recoverD, hu, Tryd.ntmps95, Exit.thenS]
  refine wpS_of_wp ?_
  change Code.wp _ _ _ ⟨#[.pointer (some p), .iface 52 (.int .i64 13), undef, undef, .iface 52 (.int .i64 13), undef, undef, undef, undef, undef, undef, undef, undef, undef, undef, undef, undef], []⟩ _
  go_wp2
  cases c₀
  simp_all [bodyPostS, results, Tryd.results95]

set_option maxRecDepth 10000 in
set_option maxHeartbeats 2000000 in
theorem takeS_bad (most : Int) (s : ByteArray) (hb : BadS s most) (hz : s.size ≤ 4611686018427387904) (p q : Nat) (w : World) (hp : Rd w p s) (hq : w.cell? ⟨q, 0, none⟩ = some (.int .i64 most)) (hqw : q < w.heap.size) :
    Calls Tryd.prog 89 #[.pointer (some ⟨p, 0, none⟩), .func (.func 90) #[] #[.pointer (some ⟨q, 0, none⟩)]] w fun e w' => e = .returned (.tuple #[.string ⟨#[]⟩, .iface 52 (.int .i64 13)]) ∧ Below w.heap.size w w' := by
  have hmf : ∀ (fn : Fn) (first cap : Array Value) (w : World), (Instr.makeFunc fn first cap).run Tryd.prog w = .ok (.func fn first cap) w := fun _ _ _ _ => rfl
  have hB : Below w.heap.size w (w.alloc (.cells #[.nilIface] 27)) := (Below.refl _ _).alloc (Nat.le_refl _) _
  have H := Lib.hid (str1_bad most s hb hz q (w.alloc (.cells #[.nilIface] 27)) ((hB.cell (p := ⟨q, 0, none⟩) hqw).trans hq))
  have hp1 := hp.below hB
  have hc := hp1.2.1
  have HB := Lib.hid hB
  clear hp hp1 hB hb hz hq hqw
  go_enter_defers Tryd.func89, Tryd.ntmps89
  go_wp2_with fail
  refine H.out.mono ?_
  rintro e w2 ⟨rfl, hb2⟩
  obtain ⟨n1, n2⟩ := fnew w .nilIface 27
  have hc3 : w2.cell? ⟨w.heap.size, 0, none⟩ = some .nilIface := (hb2.cell (p := ⟨w.heap.size, 0, none⟩) (by simp)).trans n1
  have hf3 : w2.frozen? ⟨w.heap.size, 0, none⟩ = false := (hb2.frozen (p := ⟨w.heap.size, 0, none⟩) (by simp)).trans n2
  have HE := Lib.hid (show Below w.heap.size w (w2.setCell ⟨w.heap.size, 0, none⟩ (.iface 52 (.int .i64 13))) from (HB.out.trans (hb2.mono (by simp))).setCell (p := ⟨w.heap.size, 0, none⟩) (Nat.le_refl _) _)
  have hc4 : (w2.setCell ⟨w.heap.size, 0, none⟩ (.iface 52 (.int .i64 13))).cell? ⟨w.heap.size, 0, none⟩ = some (.iface 52 (.int .i64 13)) := World.cell?_setCell_same _ _ _ hc3
  have HC3 := Lib.hid hc3
  have HF3 := Lib.hid hf3
  have HC4 := Lib.hid hc4
  clear hb2 n1 n2 hc3 hf3 hc4
  go_wp2
  refine leaves_cons (f := 95) (args := #[.pointer (some ⟨w.heap.size, 0, none⟩)]) (by simp) (by simp [go_sem]) ?_
  refine (catchS_thrown ⟨w.heap.size, 0, none⟩ .nilIface _ HC3.out HF3.out).mono ?_
  rintro e u' w'' ⟨rfl, rfl, rfl⟩
  have hc4 := HC4.out
  simp [Leaves, settle, results, Tryd.results89, go_sem, hc4]
  exact HE.out
theorem takeS_nil (f : Value) (w : World) :
    Calls Tryd.prog 89 #[.pointer none, f] w fun e w' => e = .returned (.tuple #[.string ⟨#[]⟩, .iface 52 (.int .i64 1)]) ∧ Below w.heap.size w w' := by
  go_enter_defers Tryd.func89, Tryd.ntmps89
  go_wp2
  simp [bodyPostD, Leaves, results, Tryd.results89, go_sem]
  exact (Below.refl _ _).alloc (Nat.le_refl _) _
set_option maxHeartbeats 1000000 in
theorem rStr_bad (most : Int) (s : ByteArray) (hb : BadS s most) (hz : s.size ≤ 4611686018427387904) (p : Nat) (w : World) (hp : Rd w p s) :
    Calls Tryd.prog 86 #[.pointer (some ⟨p, 0, none⟩), .int .i64 most] w fun e w' => e = .returned (.tuple #[.string ⟨#[]⟩, .iface 52 (.int .i64 13)]) ∧ Below w.heap.size w w' := by
  have hmf : ∀ (fn : Fn) (first cap : Array Value) (w : World), (Instr.makeFunc fn first cap).run Tryd.prog w = .ok (.func fn first cap) w := fun _ _ _ _ => rfl
  have hB : Below w.heap.size w (w.alloc (.cells #[.int .i64 most] 3)) := (Below.refl _ _).alloc (Nat.le_refl _) _
  have H := Lib.hid (takeS_bad most s hb hz p w.heap.size (w.alloc (.cells #[.int .i64 most] 3)) (hp.below hB) (fnew w (.int .i64 most) 3).1 (by simp))
  have HB := Lib.hid hB
  clear hB hb hz hp
  go_enter Tryd.func86, Tryd.ntmps86
  go_wp2_with fail
  refine H.out.mono ?_
  rintro e w2 ⟨rfl, hb⟩
  have HE := Lib.hid (HB.out.trans (hb.mono (by simp)))
  clear hb
  go_wp2
  go_ret2
  exact ⟨rfl, HE.out⟩
set_option maxHeartbeats 1000000 in
theorem rStr_nil (most : Int) (w : World) :
    Calls Tryd.prog 86 #[.pointer none, .int .i64 most] w fun e w' => e = .returned (.tuple #[.string ⟨#[]⟩, .iface 52 (.int .i64 1)]) ∧ Below w.heap.size w w' := by
  have hmf : ∀ (fn : Fn) (first cap : Array Value) (w : World), (Instr.makeFunc fn first cap).run Tryd.prog w = .ok (.func fn first cap) w := fun _ _ _ _ => rfl
  have HB := Lib.hid (show Below w.heap.size w (w.alloc (.cells #[.int .i64 most] 3)) from (Below.refl _ _).alloc (Nat.le_refl _) _)
  go_enter Tryd.func86, Tryd.ntmps86
  go_wp2_with fail
  refine (takeS_nil _ _).mono ?_
  rintro e w2 ⟨rfl, hb⟩
  have HE := Lib.hid (HB.out.trans (hb.mono (by simp)))
  clear hb
  go_wp2
  go_ret2
  exact ⟨rfl, HE.out⟩
end Go.Proofs.YtflomllfehoedaaDoor

namespace Go.Proofs.YtflomllfehoedaaDoor
open Go.RowKit

attribute [local go_sem ↓] old_ldi old_lds
attribute [local go_sem] oldC_forall isC1_ptr isS1_ptr c1V_ptr
theorem layE_str (p : ByteArray) (k : Nat) (d : ByteArray) : numB k ++ strB p ++ strB d = layE p k d := by
  apply ba_ext
  rw [layE_list]
  simp only [ByteArray.data_append, Array.toList_append, numB_list, strB_list, List.append_assoc]
set_option maxRecDepth 10000 in
set_option maxHeartbeats 1000000 in
theorem lay8_bad (p : ByteArray) (k : Int) (d : ByteArray) (hz : p.size ≤ maxLen) (hr : rightE p k d = false) (w : World) : Calls Tryd.prog 28 #[entV p k d] w fun e w' => e = .returned (.tuple #[.string ⟨#[]⟩, .iface 52 (.int .i64 1)]) ∧ Below w.heap.size w w' := by
  have hb0 : Below w.heap.size w (w.alloc (.cells #[.string p, .int .i64 k, .string d] 38)) := (Below.refl _ _).alloc (Nat.le_refl _) _
  have HB0 := Lib.hid hb0
  have HC := Lib.hid (fun W => right8 p k d hz W)
  have HR := Lib.hid hr
  clear hb0 hz hr
  go_enter Tryd.func28, Tryd.ntmps28
  go_wp2_with fail
  refine (HC.out _).mono ?_
  rintro e w1 ⟨rfl, hb1⟩
  rw [HR.out]
  have HB1 := Lib.hid (HB0.out.trans (hb1.mono HB0.out.size))
  clear hb1
  go_wp2
  go_ret2
  exact ⟨rfl, HB1.out⟩
set_option maxRecDepth 10000 in
set_option maxHeartbeats 1000000 in
theorem lay8_good (p : ByteArray) (k : Nat) (d : ByteArray) (hr : rightE p (k : Int) d = true) (w : World) : Calls Tryd.prog 28 #[entV p (k : Int) d] w fun e w' => e = .returned (.tuple #[.string (layE p k d), .nilIface]) ∧ Below w.heap.size w w' := by
  obtain ⟨h1, h2, h3, h4, _⟩ := rightE_parts hr
  have hp54 := isP_len (isP_of_dp h1)
  rw [← Lib.size_eq] at hp54
  have hb0 : Below w.heap.size w (w.alloc (.cells #[.string p, .int .i64 (k : Int), .string d] 38)) := (Below.refl _ _).alloc (Nat.le_refl _) _
  have r0 := enAt_new w p (k : Int) d
  have HC := Lib.hid (fun W => right8 p (k : Int) d (by unfold maxLen; omega) W)
  obtain ⟨W, hW⟩ : ∃ W, w.alloc (.cells #[.string p, .int .i64 (k : Int), .string d] 38) = W := ⟨_, rfl⟩
  rw [hW] at hb0 r0
  have HB0 := Lib.hid hb0
  have HR0 := Lib.hid r0
  have HR := Lib.hid hr
  have c0 := r0.c0
  have c1 := r0.c1
  have c2 := r0.c2
  have hk9 := numB_size_nine (n := k) (by omega)
  have hpS := strB_size p
  have hdS := strB_size d
  have hp9 := dg_nine (n := p.size) (by omega)
  have hd9 := dg_nine (n := d.size) (by omega)
  obtain ⟨nk, hnk⟩ : ∃ nk, numB k = nk := ⟨_, rfl⟩
  obtain ⟨sp, hsp⟩ : ∃ sp, strB p = sp := ⟨_, rfl⟩
  obtain ⟨sd, hsd⟩ : ∃ sd, strB d = sd := ⟨_, rfl⟩
  have HL := Lib.hid (show nk ++ sp ++ sd = layE p k d by rw [← hnk, ← hsp, ← hsd]; exact layE_str p k d)
  have z1 : ¬ 9223372036854775807 < nk.size + sp.size := by rw [← hnk, ← hsp]; omega
  have z2 : ¬ 9223372036854775807 < nk.size + sp.size + sd.size := by rw [← hnk, ← hsp, ← hsd]; omega
  have HK : Hid (∀ w0 w', OldC w0 w' → Calls Tryd.prog 27 #[.int .i64 (k : Int)] w' fun e w'' => e = .returned (.string nk) ∧ OldC w0 w'') := fun w0 w' hw' => by
    rw [← hnk]
    refine (num_any k (by omega) w').mono ?_
    rintro e w'' ⟨rfl, hb⟩
    exact ⟨rfl, hw'.then hb⟩
  have HSP : Hid (∀ w0 w', OldC w0 w' → Calls Tryd.prog 52 #[.string p] w' fun e w'' => e = .returned (.string sp) ∧ OldC w0 w'') := fun w0 w' hw' => by
    rw [← hsp]
    refine (str_any p (by omega) w').mono ?_
    rintro e w'' ⟨rfl, hb⟩
    exact ⟨rfl, hw'.then hb⟩
  have HSD : Hid (∀ w0 w', OldC w0 w' → Calls Tryd.prog 52 #[.string d] w' fun e w'' => e = .returned (.string sd) ∧ OldC w0 w'') := fun w0 w' hw' => by
    rw [← hsd]
    refine (str_any d (by omega) w').mono ?_
    rintro e w'' ⟨rfl, hb⟩
    exact ⟨rfl, hw'.then hb⟩
  clear hb0 r0 hr h1 h2 h3 h4 hp54 hk9 hpS hdS hp9 hd9 hnk hsp hsd
  go_enter Tryd.func28, Tryd.ntmps28
  go_wp2_with fail
  refine (HC.out _).mono ?_
  rintro e w1 ⟨rfl, hb1⟩
  rw [HR.out]
  have HB1 := Lib.hid (HB0.out.trans (hb1.mono HB0.out.size))
  have r1 := HR0.out.below hb1
  have d0 := r1.c0
  have d1 := r1.c1
  have d2 := r1.c2
  clear hb1 r1 c0 c1 c2 hW
  go_wp2_with fail
  refine wp_region_old (by kernel_rfl) (by kernel_rfl) ?_
  repeat (go_big_quiet_step ((first | (intro hw; with_reducible exact HK.out _ _ hw) | (intro hw; with_reducible exact HSP.out _ _ hw) | (intro hw; with_reducible exact HSD.out _ _ hw))))
  refine wpQuiet_nil ?_
  intro w9 hw9
  have HE := Lib.hid (show Below w.heap.size w w9 from HB1.out.trans (Below.mono hw9 HB1.out.size))
  clear hw9
  go_wp2
  go_ret2
  exact ⟨by rw [← HL.out]; rfl, HE.out⟩
end Go.Proofs.YtflomllfehoedaaDoor

namespace Go.Proofs.YtflomllfehoedaaDoor
open Go.RowKit

theorem results_cell8 {fn : Func} {p q : Tmp} {ty : TypeId} (h : fn.results = #[.cell p ty, .tmp q]) (tmps : Array Value) (P : Program) (w : World) :
    (results fn tmps).run P w = ((asAddr (tmps.getD p undef)).run P w).andThen fun a w₁ => ((loadVar ty a).run P w₁).andThen fun v w₂ => .ok (.tuple #[v, tmps.getD q undef]) w₂ := by
  simp only [results, h]
  simp [Sem.run_bind, Result.andThen]
/-- All blocks that were there are as they were, but p's. -/
def Kp (p : Nat) (w w' : World) : Prop := w.heap.size ≤ w'.heap.size ∧ ∀ q, q < w.heap.size → q ≠ p → w'.heap[q]? = w.heap[q]?
theorem Kp.trans {p : Nat} {w w' w'' : World} (h : Kp p w w') (g : Kp p w' w'') : Kp p w w'' := ⟨Nat.le_trans h.1 g.1, fun q hq hn => (g.2 q (Nat.lt_of_lt_of_le hq h.1) hn).trans (h.2 q hq hn)⟩
theorem kp_below {w w' : World} (p : Nat) (h : Below w.heap.size w w') : Kp p w w' := ⟨h.size, fun q hq _ => h.block q hq⟩
theorem kp_next {w w' : World} {p : Nat} {v : Value} (hb : Below w.heap.size (w.setCell ⟨p, 0, none⟩ v) w') : Kp p w w' := ⟨by have := hb.size; simpa [World.setCell] using this, fun q hq hn => (hb.block q hq).trans (Below.heap_setCell _ _ _ _ hn)⟩
theorem kp_en3 {w w' : World} {p b : Nat} (h : Kp p w w') (hb : w.heap.size ≤ b) (x : ByteArray) (k : Int) (y : ByteArray) : Kp p w (enSet w' b x k y) := by
  refine ⟨by simpa [enSet, World.setCell] using h.1, fun q hq hn => ?_⟩
  unfold enSet
  rw [Below.heap_setCell _ _ _ _ (show q ≠ b by omega), Below.heap_setCell _ _ _ _ (show q ≠ b by omega), Below.heap_setCell _ _ _ _ (show q ≠ b by omega)]
  exact h.2 q hq hn
/-- A kind of one byte, a text and a text begin the bytes. -/
def Pts8 (l : List UInt8) (p : ByteArray) (k : Nat) (d : ByteArray) (rest : List UInt8) : Prop := l = (layE p k d).data.toList ++ rest ∧ k ≤ 127
theorem pts8_list {l : List UInt8} {p d : ByteArray} {k : Nat} {rest : List UInt8} (h : Pts8 l p k d rest) : l = dg k ++ (dg p.size ++ (p.data.toList ++ (dg d.size ++ (d.data.toList ++ rest)))) ∧ k ≤ 127 := by
  obtain ⟨h1, h2⟩ := h
  refine ⟨?_, h2⟩
  rw [h1, layE_list]
  simp only [List.append_assoc]
theorem pts8_len {l : List UInt8} {p d : ByteArray} {k : Nat} {rest : List UInt8} (h : Pts8 l p k d rest) : p.size ≤ l.length ∧ d.size ≤ l.length := by
  have h2 := congrArg List.length (pts8_list h).1
  simp only [List.length_append, ← Lib.size_eq] at h2
  omega
theorem next8 {w w' : World} {p : Nat} {v : Value} (hp : p < w.heap.size) (hb : Below w.heap.size (w.setCell ⟨p, 0, none⟩ v) w') : Below p w w' := below_next (Below.refl p w) (Nat.le_refl p) (Nat.le_of_lt hp) hb
set_option maxRecDepth 10000 in
theorem parts8_nil (w : World) : Calls Tryd.prog 79 #[.pointer none] w fun e w' => e = .returned (.tuple #[entV ⟨#[]⟩ 0 ⟨#[]⟩, .iface 52 (.int .i64 1)]) ∧ Below w.heap.size w w' := by
  have hb0 : Below w.heap.size w (w.alloc (.cells #[.string ⟨#[]⟩, .int .i64 0, .string ⟨#[]⟩] 38)) := (Below.refl _ _).alloc (Nat.le_refl _) _
  have HB0 := Lib.hid hb0
  have HR0 := Lib.hid (enAt_new w ⟨#[]⟩ 0 ⟨#[]⟩)
  clear hb0
  go_enter Tryd.func79, Tryd.ntmps79
  go_wp2_with fail
  refine (rNum_nil _ _).mono ?_
  rintro e w1 ⟨rfl, hb1⟩
  have HB1 := Lib.hid (HB0.out.trans (hb1.mono HB0.out.size))
  have r1 := HR0.out.below hb1
  have c0 := r1.c0
  have c1 := r1.c1
  have c2 := r1.c2
  have f0 := r1.f0
  have f1 := r1.f1
  have f2 := r1.f2
  have HR1 := Lib.hid r1
  clear hb1 r1
  go_wp2
  have hld := lv_en (HR1.out.set ⟨#[]⟩ 0 ⟨#[]⟩)
  refine bodyPost_ret (v := .tuple #[entV ⟨#[]⟩ 0 ⟨#[]⟩, .iface 52 (.int .i64 1)]) ?_ rfl ⟨rfl, below_en3 HB1.out (Nat.le_refl _) _ _ _⟩
  rw [results_cell8 rfl]
  simp [asAddr, Result.andThen, hld]
theorem Rd.en3 {w : World} {q b : Nat} {s : ByteArray} (h : Rd w q s) (hne : ¬ q = b) (p : ByteArray) (k : Int) (d : ByteArray) : Rd (enSet w b p k d) q s := by
  refine ⟨by simpa [enSet, World.setCell] using h.1, ?_, ?_⟩
  · rw [World.cell?_setCell_other _ _ _ _ (fun e => hne (congrArg Addr.block e).symm), World.cell?_setCell_other _ _ _ _ (fun e => hne (congrArg Addr.block e).symm), World.cell?_setCell_other _ _ _ _ (fun e => hne (congrArg Addr.block e).symm)]
    exact h.2.1
  · simpa using h.2.2
set_option maxRecDepth 10000 in
set_option maxHeartbeats 2000000 in
theorem parts8 (s : ByteArray) (hz : s.size ≤ 100000) (p : Nat) (w : World) (hp : Rd w p s) :
    Calls Tryd.prog 79 #[.pointer (some ⟨p, 0, none⟩)] w fun e w' => ((∃ x k y rest, Pts8 s.data.toList x k y rest ∧ e = .returned (.tuple #[entV x (k : Int) y, .nilIface]) ∧ Rd w' p (bs rest)) ∨ ((∀ x k y rest, ¬ Pts8 s.data.toList x k y rest) ∧ e = .returned (.tuple #[entV ⟨#[]⟩ 0 ⟨#[]⟩, .iface 52 (.int .i64 13)]))) ∧ Below p w w' ∧ Kp p w w' := by
  obtain ⟨W, hW⟩ : ∃ W, w.alloc (.cells #[.string ⟨#[]⟩, .int .i64 0, .string ⟨#[]⟩] 38) = W := ⟨_, rfl⟩
  have hb0 : Below w.heap.size w W := by rw [← hW]; exact (Below.refl _ _).alloc (Nat.le_refl _) _
  have r0 : EnAt W w.heap.size ⟨#[]⟩ 0 ⟨#[]⟩ := by rw [← hW]; exact enAt_new _ _ _ _
  have HB0 := Lib.hid (hb0.mono (Nat.le_of_lt hp.1))
  have HK0 := Lib.hid (kp_below p hb0)
  have HR0 := Lib.hid r0
  have HP := Lib.hid (hp.below hb0)
  have HN := Lib.hid hp.1
  have HNW := Lib.hid (show w.heap.size < W.heap.size from r0.lt)
  rcases bad_or s 127 with hbad | ⟨k, r1, hl1, hk1, hk2⟩
  · have HNO := Lib.hid (show ∀ x k y rest, ¬ Pts8 s.data.toList x k y rest from fun x k y rest h => by
      have h2 := pts8_list h
      have h9 := pts8_len h
      rw [← Lib.size_eq] at h9
      exact hbad k _ h2.1 (by omega) (by omega))
    have H1 := Lib.hid (rNum_bad 127 s hbad (by omega) p W (hp.below hb0))
    clear hz hp hb0 r0
    go_enter Tryd.func79, Tryd.ntmps79
    go_wp2_with fail
    refine (H1.out).mono ?_
    rintro e w1 ⟨rfl, hb1⟩
    have HK1 := Lib.hid (HK0.out.trans (kp_below p hb1))
    have HB1 := Lib.hid (show Below p w w1 from HB0.out.trans (hb1.mono (Nat.le_of_lt HP.out.1)))
    have HR1 := Lib.hid (HR0.out.below hb1)
    clear hb1
    have c0 := HR1.out.c0
    have c1 := HR1.out.c1
    have c2 := HR1.out.c2
    have f0 := HR1.out.f0
    have f1 := HR1.out.f1
    have f2 := HR1.out.f2
    go_wp2
    have hld := lv_en (HR1.out.set ⟨#[]⟩ 0 ⟨#[]⟩)
    refine bodyPost_ret (v := .tuple #[entV ⟨#[]⟩ 0 ⟨#[]⟩, .iface 52 (.int .i64 13)]) ?_ rfl ⟨.inr ⟨HNO.out, rfl⟩, below_en3 HB1.out (Nat.le_of_lt HN.out) _ _ _, kp_en3 HK1.out (Nat.le_refl _) _ _ _⟩
    rw [results_cell8 rfl]
    simp [asAddr, Result.andThen, hld]
  · have hlen1 := congrArg List.length hl1
    rw [List.length_append, ← Lib.size_eq] at hlen1
    have H1 := Lib.hid (rNum_good k 127 s _ hl1 (by omega) hk1 hk2 p W (hp.below hb0))
    rcases badS_or (bs r1) 9223372036854775807 with hbad | ⟨x, r2, hl2, hx⟩
    · have HNO := Lib.hid (show ∀ x k y rest, ¬ Pts8 s.data.toList x k y rest from fun x m y rest h => by
        have h2 := pts8_list h
        have h9 := pts8_len h
        rw [← Lib.size_eq] at h9
        rw [hl1] at h2
        obtain ⟨rfl, h3⟩ := dg_cut _ _ _ _ h2.1
        exact hbad x _ (by rw [bs_list]; exact h3) (by omega))
      have H2 := Lib.hid (fun (X : World) (h : Rd X p (bs r1)) => rStr_bad 9223372036854775807 (bs r1) hbad (by rw [bs_size]; omega) p X h)
      clear hz hp hb0 r0 hl1 hk1 hk2 hlen1
      go_enter Tryd.func79, Tryd.ntmps79
      go_wp2_with fail
      refine (H1.out).mono ?_
      rintro e w1 ⟨rfl, hb1⟩
      have HB1 := Lib.hid (HB0.out.trans (next8 HP.out.1 hb1))
      have HK1 := Lib.hid (HK0.out.trans (kp_next hb1))
      have HP1 := Lib.hid (HP.out.next hb1)
      have HR1 := Lib.hid (show EnAt w1 w.heap.size ⟨#[]⟩ 0 ⟨#[]⟩ from HR0.out.of ((hb1.block _ HR0.out.lt).trans (Below.heap_setCell _ _ _ _ (by have := HN.out; simp; omega))))
      clear hb1
      go_wp2_with fail
      refine (H2.out _ HP1.out).mono ?_
      rintro e w2 ⟨rfl, hb2⟩
      have HK2 := Lib.hid (HK1.out.trans (kp_below p hb2))
      have HB2 := Lib.hid (show Below p w w2 from HB1.out.trans (hb2.mono (Nat.le_of_lt HP1.out.1)))
      have HR2 := Lib.hid (HR1.out.below hb2)
      clear hb2
      have c0 := HR2.out.c0
      have c1 := HR2.out.c1
      have c2 := HR2.out.c2
      have f0 := HR2.out.f0
      have f1 := HR2.out.f1
      have f2 := HR2.out.f2
      go_wp2
      have hld := lv_en (HR2.out.set ⟨#[]⟩ 0 ⟨#[]⟩)
      refine bodyPost_ret (v := .tuple #[entV ⟨#[]⟩ 0 ⟨#[]⟩, .iface 52 (.int .i64 13)]) ?_ rfl ⟨.inr ⟨HNO.out, rfl⟩, below_en3 HB2.out (Nat.le_of_lt HN.out) _ _ _, kp_en3 HK2.out (Nat.le_refl _) _ _ _⟩
      rw [results_cell8 rfl]
      simp [asAddr, Result.andThen, hld]
    · rw [bs_list] at hl2
      have hlen2 := congrArg List.length hl2
      rw [List.length_append, List.length_append, ← Lib.size_eq x] at hlen2
      have H2 := Lib.hid (fun (X : World) (h : Rd X p (bs r1)) => rStr_good x 9223372036854775807 (bs r1) r2 (by rw [bs_list, hl2]) (by rw [bs_size]; omega) hx p X h)
      rcases badS_or (bs r2) 9223372036854775807 with hbad | ⟨y, r3, hl3, hy⟩
      · have HNO := Lib.hid (show ∀ x k y rest, ¬ Pts8 s.data.toList x k y rest from fun x' m y rest h => by
          have h2 := pts8_list h
          have h9 := pts8_len h
          rw [← Lib.size_eq] at h9
          rw [hl1, hl2] at h2
          obtain ⟨rfl, h3⟩ := dg_cut _ _ _ _ h2.1
          obtain ⟨h4, h5⟩ := dg_cut _ _ _ _ h3
          obtain ⟨_, h7⟩ := List.append_inj h5 (by rw [← Lib.size_eq, ← Lib.size_eq]; exact h4)
          exact hbad y _ (by rw [bs_list]; exact h7) (by omega))
        have H3 := Lib.hid (fun (X : World) (h : Rd X p (bs r2)) => rStr_bad 9223372036854775807 (bs r2) hbad (by rw [bs_size]; omega) p X h)
        clear hz hp hb0 r0 hl1 hk1 hk2 hlen1 hl2 hlen2
        go_enter Tryd.func79, Tryd.ntmps79
        go_wp2_with fail
        refine (H1.out).mono ?_
        rintro e w1 ⟨rfl, hb1⟩
        have HB1 := Lib.hid (HB0.out.trans (next8 HP.out.1 hb1))
        have HK1 := Lib.hid (HK0.out.trans (kp_next hb1))
        have HP1 := Lib.hid (HP.out.next hb1)
        have HR1 := Lib.hid (show EnAt w1 w.heap.size ⟨#[]⟩ 0 ⟨#[]⟩ from HR0.out.of ((hb1.block _ HR0.out.lt).trans (Below.heap_setCell _ _ _ _ (by have := HN.out; simp; omega))))
        clear hb1
        go_wp2_with fail
        refine (H2.out _ HP1.out).mono ?_
        rintro e w2 ⟨rfl, hb2⟩
        have HB2 := Lib.hid (HB1.out.trans (next8 HP1.out.1 hb2))
        have HK2 := Lib.hid (HK1.out.trans (kp_next hb2))
        have HP2 := Lib.hid (HP1.out.next hb2)
        have HR2 := Lib.hid (show EnAt w2 w.heap.size ⟨#[]⟩ 0 ⟨#[]⟩ from HR1.out.of ((hb2.block _ HR1.out.lt).trans (Below.heap_setCell _ _ _ _ (by have := HN.out; simp; omega))))
        clear hb2
        go_wp2_with fail
        refine (H3.out _ HP2.out).mono ?_
        rintro e w3 ⟨rfl, hb3⟩
        have HK3 := Lib.hid (HK2.out.trans (kp_below p hb3))
        have HB3 := Lib.hid (show Below p w w3 from HB2.out.trans (hb3.mono (Nat.le_of_lt HP2.out.1)))
        have HR3 := Lib.hid (HR2.out.below hb3)
        clear hb3
        have c0 := HR3.out.c0
        have c1 := HR3.out.c1
        have c2 := HR3.out.c2
        have f0 := HR3.out.f0
        have f1 := HR3.out.f1
        have f2 := HR3.out.f2
        go_wp2
        have hld := lv_en (HR3.out.set ⟨#[]⟩ 0 ⟨#[]⟩)
        refine bodyPost_ret (v := .tuple #[entV ⟨#[]⟩ 0 ⟨#[]⟩, .iface 52 (.int .i64 13)]) ?_ rfl ⟨.inr ⟨HNO.out, rfl⟩, below_en3 HB3.out (Nat.le_of_lt HN.out) _ _ _, kp_en3 HK3.out (Nat.le_refl _) _ _ _⟩
        rw [results_cell8 rfl]
        simp [asAddr, Result.andThen, hld]
      · rw [bs_list] at hl3
        have hlen3 := congrArg List.length hl3
        rw [List.length_append, List.length_append, ← Lib.size_eq y] at hlen3
        have H3 := Lib.hid (fun (X : World) (h : Rd X p (bs r2)) => rStr_good y 9223372036854775807 (bs r2) r3 (by rw [bs_list, hl3]) (by rw [bs_size]; omega) hy p X h)
        have hall : s.data.toList = (layE x k y).data.toList ++ r3 := by
          rw [hl1, hl2, hl3, layE_list]
          simp only [List.append_assoc]
        have HEN := Lib.hid (show Pts8 s.data.toList x k y r3 from ⟨hall, by omega⟩)
        clear hz hp hb0 r0 hl1 hk1 hk2 hlen1 hl2 hlen2 hl3 hlen3 hall
        go_enter Tryd.func79, Tryd.ntmps79
        go_wp2_with fail
        refine (H1.out).mono ?_
        rintro e w1 ⟨rfl, hb1⟩
        have HB1 := Lib.hid (HB0.out.trans (next8 HP.out.1 hb1))
        have HK1 := Lib.hid (HK0.out.trans (kp_next hb1))
        have HP1 := Lib.hid (HP.out.next hb1)
        have HR1 := Lib.hid (show EnAt w1 w.heap.size ⟨#[]⟩ 0 ⟨#[]⟩ from HR0.out.of ((hb1.block _ HR0.out.lt).trans (Below.heap_setCell _ _ _ _ (by have := HN.out; simp; omega))))
        clear hb1
        go_wp2_with fail
        refine (H2.out _ HP1.out).mono ?_
        rintro e w2 ⟨rfl, hb2⟩
        have HB2 := Lib.hid (HB1.out.trans (next8 HP1.out.1 hb2))
        have HK2 := Lib.hid (HK1.out.trans (kp_next hb2))
        have HP2 := Lib.hid (HP1.out.next hb2)
        have HR2 := Lib.hid (show EnAt w2 w.heap.size ⟨#[]⟩ 0 ⟨#[]⟩ from HR1.out.of ((hb2.block _ HR1.out.lt).trans (Below.heap_setCell _ _ _ _ (by have := HN.out; simp; omega))))
        clear hb2
        go_wp2_with fail
        refine (H3.out _ HP2.out).mono ?_
        rintro e w3 ⟨rfl, hb3⟩
        have HB3 := Lib.hid (HB2.out.trans (next8 HP2.out.1 hb3))
        have HK3 := Lib.hid (HK2.out.trans (kp_next hb3))
        have HP3 := Lib.hid (HP2.out.next hb3)
        have HR3 := Lib.hid (show EnAt w3 w.heap.size ⟨#[]⟩ 0 ⟨#[]⟩ from HR2.out.of ((hb3.block _ HR2.out.lt).trans (Below.heap_setCell _ _ _ _ (by have := HN.out; simp; omega))))
        clear hb3
        have c0 := HR3.out.c0
        have c1 := HR3.out.c1
        have c2 := HR3.out.c2
        have f0 := HR3.out.f0
        have f1 := HR3.out.f1
        have f2 := HR3.out.f2
        go_wp2
        have hld := lv_en (HR3.out.set x (k : Int) y)
        have hne : ¬ p = w.heap.size := by have := HN.out; omega
        refine bodyPost_ret (v := .tuple #[entV x (k : Int) y, .nilIface]) ?_ rfl ⟨.inl ⟨x, k, y, r3, HEN.out, rfl, HP3.out.en3 hne _ _ _⟩, below_en3 HB3.out (Nat.le_of_lt HN.out) _ _ _, kp_en3 HK3.out (Nat.le_refl _) _ _ _⟩
        rw [results_cell8 rfl]
        simp [asAddr, Result.andThen, hld]
end Go.Proofs.YtflomllfehoedaaDoor

namespace Go.Proofs.YtflomllfehoedaaDoor
open Go.RowKit

/-- An entry that is right begins the bytes. -/
def Ent8 (l : List UInt8) (p : ByteArray) (k : Nat) (d : ByteArray) (rest : List UInt8) : Prop := l = (layE p k d).data.toList ++ rest ∧ rightE p (k : Int) d = true
theorem ent8_pts {l : List UInt8} {p d : ByteArray} {k : Nat} {rest : List UInt8} (h : Ent8 l p k d rest) : Pts8 l p k d rest := by
  obtain ⟨_, _, h3, _⟩ := rightE_parts h.2
  exact ⟨h.1, by omega⟩
theorem ent8_list {l : List UInt8} {p d : ByteArray} {k : Nat} {rest : List UInt8} (h : Ent8 l p k d rest) : l = dg k ++ (dg p.size ++ (p.data.toList ++ (dg d.size ++ (d.data.toList ++ rest)))) ∧ k ≤ 4 ∧ p.size ≤ 54 ∧ d.size ≤ 256 := by
  obtain ⟨h1, h2⟩ := h
  obtain ⟨a1, a2, a3, a4, _⟩ := rightE_parts h2
  have h54 := isP_len (isP_of_dp a1)
  rw [← Lib.size_eq] at h54
  refine ⟨?_, by omega, h54, a4⟩
  rw [h1, layE_list]
  simp only [List.append_assoc]
set_option maxRecDepth 10000 in
theorem read8_nil (w : World) : Calls Tryd.prog 60 #[.pointer none] w fun e w' => e = .returned (.tuple #[entV ⟨#[]⟩ 0 ⟨#[]⟩, .iface 52 (.int .i64 1)]) ∧ Below w.heap.size w w' := by
  have hb0 : Below w.heap.size w (w.alloc (.cells #[.string ⟨#[]⟩, .int .i64 0, .string ⟨#[]⟩] 38)) := (Below.refl _ _).alloc (Nat.le_refl _) _
  have HB0 := Lib.hid hb0
  have HR0 := Lib.hid (enAt_new w ⟨#[]⟩ 0 ⟨#[]⟩)
  clear hb0
  go_enter Tryd.func60, Tryd.ntmps60
  go_wp2_with fail
  refine (parts8_nil _).mono ?_
  rintro e w1 ⟨rfl, hb1⟩
  have hb2 : Below w1.heap.size w1 (w1.alloc (.cells #[.string ⟨#[]⟩, .int .i64 0, .string ⟨#[]⟩] 38)) := (Below.refl _ _).alloc (Nat.le_refl _) _
  have HB1 := Lib.hid ((HB0.out.trans (hb1.mono HB0.out.size)).trans (hb2.mono (HB0.out.trans (hb1.mono HB0.out.size)).size))
  have r1 := (HR0.out.below hb1).below hb2
  have c0 := r1.c0
  have c1 := r1.c1
  have c2 := r1.c2
  have f0 := r1.f0
  have f1 := r1.f1
  have f2 := r1.f2
  have HR1 := Lib.hid r1
  clear hb1 r1 hb2
  go_wp2
  have hld := lv_en (HR1.out.set ⟨#[]⟩ 0 ⟨#[]⟩)
  refine bodyPost_ret (v := .tuple #[entV ⟨#[]⟩ 0 ⟨#[]⟩, .iface 52 (.int .i64 1)]) ?_ rfl ⟨rfl, below_en3 HB1.out (Nat.le_refl _) _ _ _⟩
  rw [results_cell8 rfl]
  simp [asAddr, Result.andThen, hld]
set_option maxRecDepth 10000 in
set_option maxHeartbeats 2000000 in
theorem read8K (s : ByteArray) (hz : s.size ≤ 100000) (p : Nat) (w : World) (hp : Rd w p s) :
    Calls Tryd.prog 60 #[.pointer (some ⟨p, 0, none⟩)] w fun e w' => ((∃ x k y rest, Ent8 s.data.toList x k y rest ∧ e = .returned (.tuple #[entV x (k : Int) y, .nilIface]) ∧ Rd w' p (bs rest)) ∨ ((∀ x k y rest, ¬ Ent8 s.data.toList x k y rest) ∧ e = .returned (.tuple #[entV ⟨#[]⟩ 0 ⟨#[]⟩, .iface 52 (.int .i64 13)]))) ∧ Below p w w' ∧ Kp p w w' := by
  obtain ⟨W, hW⟩ : ∃ W, w.alloc (.cells #[.string ⟨#[]⟩, .int .i64 0, .string ⟨#[]⟩] 38) = W := ⟨_, rfl⟩
  have hb0 : Below w.heap.size w W := by rw [← hW]; exact (Below.refl _ _).alloc (Nat.le_refl _) _
  have r0 : EnAt W w.heap.size ⟨#[]⟩ 0 ⟨#[]⟩ := by rw [← hW]; exact enAt_new _ _ _ _
  have HB0 := Lib.hid (hb0.mono (Nat.le_of_lt hp.1))
  have HK0 := Lib.hid (kp_below p hb0)
  have HR0 := Lib.hid r0
  have HN := Lib.hid hp.1
  have HC := Lib.hid (parts8 s hz p W (hp.below hb0))
  have HZ := Lib.hid hz
  clear hz hp hb0 r0
  go_enter Tryd.func60, Tryd.ntmps60
  go_wp2_with fail
  refine HC.out.mono ?_
  rintro e w1 ⟨⟨x, k, y, rest, hpt, rfl, hp1⟩ | ⟨hno, rfl⟩, hb1, hk1⟩
  · have hne : ¬ w.heap.size = p := by have := HN.out; omega
    have r1 : EnAt w1 w.heap.size ⟨#[]⟩ 0 ⟨#[]⟩ := HR0.out.of (hk1.2 _ HR0.out.lt hne)
    have hb2 : Below w1.heap.size w1 (w1.alloc (.cells #[.string x, .int .i64 (k : Int), .string y] 38)) := (Below.refl _ _).alloc (Nat.le_refl _) _
    have q2 := enAt_new w1 x (k : Int) y
    obtain ⟨w2, hw2⟩ : ∃ w2, w1.alloc (.cells #[.string x, .int .i64 (k : Int), .string y] 38) = w2 := ⟨_, rfl⟩
    obtain ⟨M, hM⟩ : ∃ M, w1.heap.size = M := ⟨_, rfl⟩
    rw [hw2] at hb2 q2
    rw [hM] at q2
    have HB2 := Lib.hid ((HB0.out.trans hb1).trans (hb2.mono (Nat.le_of_lt hp1.1)))
    have HK2 := Lib.hid ((HK0.out.trans hk1).trans (kp_below p hb2))
    have HR2 := Lib.hid (r1.below hb2)
    have HP2 := Lib.hid (hp1.below hb2)
    have HQ2 := Lib.hid q2
    have hsz := pts8_len hpt
    rw [← Lib.size_eq] at hsz
    have HRI := Lib.hid (fun X => right8 x (k : Int) y (by have := HZ.out; unfold maxLen; omega) X)
    have HPT := Lib.hid hpt
    have g0 := q2.c0
    have g1 := q2.c1
    have g2 := q2.c2
    clear hb1 hk1 hp1 hb2 q2 r1 hne hsz hpt
    go_wp2_with fail
    refine (HRI.out _).mono ?_
    rintro e w3 ⟨rfl, hb3⟩
    have HB3 := Lib.hid (HB2.out.trans (hb3.mono (Nat.le_of_lt HP2.out.1)))
    have HK3 := Lib.hid (HK2.out.trans (kp_below p hb3))
    have HR3 := Lib.hid (HR2.out.below hb3)
    have HP3 := Lib.hid (HP2.out.below hb3)
    have q3 := HQ2.out.below hb3
    have i0 := q3.c0
    have i1 := q3.c1
    have i2 := q3.c2
    clear hb3 q3 g0 g1 g2 hw2 hM
    have c0 := HR3.out.c0
    have c1 := HR3.out.c1
    have c2 := HR3.out.c2
    have f0 := HR3.out.f0
    have f1 := HR3.out.f1
    have f2 := HR3.out.f2
    cases hrv : rightE x (k : Int) y with
    | false =>
      have HNO := Lib.hid (show ∀ x k y rest, ¬ Ent8 s.data.toList x k y rest from fun x' m y' rest h => by
        have h2 := h.1
        rw [HPT.out.1] at h2
        obtain ⟨rfl, rfl, rfl, _⟩ := layE_cut h2
        have h3 := h.2
        rw [hrv] at h3
        cases h3)
      clear hrv
      go_wp2
      have hld := lv_en (HR3.out.set ⟨#[]⟩ 0 ⟨#[]⟩)
      refine bodyPost_ret (v := .tuple #[entV ⟨#[]⟩ 0 ⟨#[]⟩, .iface 52 (.int .i64 13)]) ?_ rfl ⟨.inr ⟨HNO.out, rfl⟩, below_en3 HB3.out (Nat.le_of_lt HN.out) _ _ _, kp_en3 HK3.out (Nat.le_refl _) _ _ _⟩
      rw [results_cell8 rfl]
      simp [asAddr, Result.andThen, hld]
    | true =>
      have HEN := Lib.hid (show Ent8 s.data.toList x k y rest from ⟨HPT.out.1, hrv⟩)
      clear hrv
      go_wp2
      have hld := lv_en (HR3.out.set x (k : Int) y)
      have hne : ¬ p = w.heap.size := by have := HN.out; omega
      refine bodyPost_ret (v := .tuple #[entV x (k : Int) y, .nilIface]) ?_ rfl ⟨.inl ⟨x, k, y, rest, HEN.out, rfl, HP3.out.en3 hne _ _ _⟩, below_en3 HB3.out (Nat.le_of_lt HN.out) _ _ _, kp_en3 HK3.out (Nat.le_refl _) _ _ _⟩
      rw [results_cell8 rfl]
      simp [asAddr, Result.andThen, hld]
  · have HNO := Lib.hid (show ∀ x k y rest, ¬ Ent8 s.data.toList x k y rest from fun x k y rest h => hno x k y rest (ent8_pts h))
    have hne : ¬ w.heap.size = p := by have := HN.out; omega
    have r1 : EnAt w1 w.heap.size ⟨#[]⟩ 0 ⟨#[]⟩ := HR0.out.of (hk1.2 _ HR0.out.lt hne)
    have hb2 : Below w1.heap.size w1 (w1.alloc (.cells #[.string ⟨#[]⟩, .int .i64 0, .string ⟨#[]⟩] 38)) := (Below.refl _ _).alloc (Nat.le_refl _) _
    have HB2 := Lib.hid ((HB0.out.trans hb1).trans (hb2.mono (by have := HR0.out.lt; have := hk1.1; have := HN.out; omega)))
    have HK2 := Lib.hid ((HK0.out.trans hk1).trans (kp_below p hb2))
    have r2 := r1.below hb2
    have c0 := r2.c0
    have c1 := r2.c1
    have c2 := r2.c2
    have f0 := r2.f0
    have f1 := r2.f1
    have f2 := r2.f2
    have HR2 := Lib.hid r2
    clear hb1 hk1 r1 hb2 r2 hne hno hW
    go_wp2
    have hld := lv_en (HR2.out.set ⟨#[]⟩ 0 ⟨#[]⟩)
    refine bodyPost_ret (v := .tuple #[entV ⟨#[]⟩ 0 ⟨#[]⟩, .iface 52 (.int .i64 13)]) ?_ rfl ⟨.inr ⟨HNO.out, rfl⟩, below_en3 HB2.out (Nat.le_of_lt HN.out) _ _ _, kp_en3 HK2.out (Nat.le_refl _) _ _ _⟩
    rw [results_cell8 rfl]
    simp [asAddr, Result.andThen, hld]
theorem read8 (s : ByteArray) (hz : s.size ≤ 100000) (p : Nat) (w : World) (hp : Rd w p s) :
    Calls Tryd.prog 60 #[.pointer (some ⟨p, 0, none⟩)] w fun e w' => ((∃ x k y rest, Ent8 s.data.toList x k y rest ∧ e = .returned (.tuple #[entV x (k : Int) y, .nilIface]) ∧ Rd w' p (bs rest)) ∨ ((∀ x k y rest, ¬ Ent8 s.data.toList x k y rest) ∧ e = .returned (.tuple #[entV ⟨#[]⟩ 0 ⟨#[]⟩, .iface 52 (.int .i64 13)]))) ∧ Below p w w' :=
  (read8K s hz p w hp).mono fun _ _ h => ⟨h.1, h.2.1⟩
end Go.Proofs.YtflomllfehoedaaDoor

namespace Go.Proofs.YtflomllfehoedaaDoor
open Go.RowKit

theorem Row.at9 {w w' : World} {a : Option Addr} {cap : Nat} {ns : List ByteArray} (h : Row w a cap ns) (hb : Below w.heap.size w w') {k : Nat} (hk : k < ns.length) : ∃ b off, a = some ⟨b, off, none⟩ ∧ w'.cell? ⟨b, off + k, none⟩ = some (.string ns[k]) := by
  rcases h.2 with h0 | ⟨b, off, rfl, hlt, hc⟩
  · rw [h0] at hk; simp at hk
  · exact ⟨b, off, rfl, (hb.cell (p := ⟨b, off + k, none⟩) hlt).trans (hc k ns[k] (List.getElem?_eq_getElem hk))⟩
theorem lists_take (ns : List ByteArray) (k : Nat) (h : k < ns.length) : jn (lists (ns.take (k + 1))) = jn (lists (ns.take k)) ++ (47 :: ns[k].data.toList) := by
  rw [List.take_add_one, List.getElem?_eq_getElem h, lists_append, jn_append]
  simp [lists, jn]
set_option maxRecDepth 10000 in
set_option maxHeartbeats 1000000 in
theorem refJoin9 (ns : List ByteArray) (a : Option Addr) (cap : Nat) (w : World) (h : Row w a cap ns) (h6 : ns.length ≤ 6) (h8 : ∀ x ∈ ns, x.size ≤ 8) : Calls Tryd.prog 65 #[.slice a ns.length cap] w fun e w' => e = .returned (.string (bs (pth (lists ns)))) ∧ w = w' := by
  have HE := Lib.hid h
  have H6 := Lib.hid h6
  have H8 := Lib.hid h8
  clear h h6 h8
  go_enter Tryd.func65, Tryd.ntmps65
  go_wp2
  go_loopg [3, 4] ns.length (fun g s i wx => ∃ (k : Nat) (t : ByteArray), s = .string t ∧ i = .int .i64 (k : Int) ∧ k + g = ns.length ∧ Hid (t.data.toList = jn (lists (ns.take k)) ∧ t.size ≤ 9 * k) ∧ w = wx)
  case atStart => exact ⟨0, ⟨#[]⟩, rfl, rfl, by omega, ⟨by simp [lists, jn], Nat.le_refl 0⟩, rfl⟩
  case round =>
    obtain ⟨k, t, rfl, rfl, hk, HI, rfl⟩ := hrel
    by_cases hlt : k < ns.length
    · have hlt' : (k : Int) < (ns.length : Int) := by omega
      obtain ⟨b, off, rfl, hc⟩ := HE.out.at9 (Below.refl _ _) hlt
      have HT := Lib.hid (lists_take ns k hlt)
      have HS := Lib.hid (H8.out _ (List.getElem_mem hlt))
      obtain ⟨x, hx⟩ : ∃ x, ns[k] = x := ⟨_, rfl⟩
      rw [hx] at hc HT HS
      clear hx
      have z1 : ¬ 9223372036854775807 < t.size + 1 := by have := HI.out.2; have := H6.out; omega
      have z2 : ¬ 9223372036854775807 < t.size + 1 + x.size := by have := HI.out.2; have := H6.out; have := HS.out; omega
      have hw : IntKind.i64.wrap ((k : Int) + 1) = (k : Int) + 1 := IntWalk.i64_in _ (by have := H6.out; omega)
      go_wp2
      go_roundg (gk - 1)
      case measure => omega
      case rel =>
        refine ⟨k + 1, _, rfl, by simp, by omega, ⟨?_, ?_⟩, rfl⟩
        · rw [HT.out, ← HI.out.1]
          simp [ByteArray.data_append]
        · simp only [ByteArray.size_append]
          have := HI.out.2
          have := HS.out
          have : (⟨#[47]⟩ : ByteArray).size = 1 := rfl
          omega
    · have hlt' : ¬ (k : Int) < (ns.length : Int) := by omega
      have HT := Lib.hid (show t.data.toList = jn (lists ns) by
        rw [HI.out.1, List.take_of_length_le (by omega)])
      by_cases h0 : ns = []
      · have hE : t = ⟨#[]⟩ := by
          apply ba_ext
          rw [HT.out, h0]
          rfl
        subst hE
        have HV := Lib.hid (show bs (pth (lists ns)) = ⟨#[47]⟩ by rw [h0]; rfl)
        clear h0
        go_wp2
        go_ret
        exact ⟨by rw [HV.out]; rfl, rfl⟩
      · have hl0 : lists ns ≠ [] := by simpa [lists] using h0
        obtain ⟨r, hr⟩ := jn_ne hl0
        have hE : t.toList.isEmpty = false := by
          rw [Lib.toList_data, HT.out, hr]
          rfl
        have HV := Lib.hid (show bs (pth (lists ns)) = t by
          apply ba_ext
          rw [bs_list, HT.out, pth, if_neg hl0])
        clear h0 hl0 hr
        go_wp2
        go_ret
        exact ⟨by rw [HV.out]; rfl, rfl⟩
theorem row_init {w : World} {a : Option Addr} {cap : Nat} {ns : List ByteArray} (h : Row w a cap ns) : Row w a cap ns.dropLast := by
  obtain ⟨h1, h2⟩ := h
  refine ⟨by simp; omega, ?_⟩
  rcases h2 with rfl | ⟨b, off, rfl, hlt, hc⟩
  · exact .inl rfl
  · exact .inr ⟨b, off, rfl, hlt, fun j x hx => hc j x (by
      rw [List.getElem?_dropLast] at hx
      split at hx
      · exact hx
      · cases hx)⟩
theorem lists_prts (p : ByteArray) : lists (prts p) = pcs p.data.toList := by
  unfold lists prts
  rw [List.map_map]
  conv => rhs; rw [← List.map_id (pcs p.data.toList)]
  apply List.map_congr_left
  intro x _
  exact bs_list x
set_option maxRecDepth 10000 in
set_option maxHeartbeats 1000000 in
theorem refPar9 (p : ByteArray) (hP : isP p.data.toList) (h1 : p.data.toList ≠ [47]) (w : World) : Calls Tryd.prog 43 #[.string p] w fun e w' => e = .returned (.string (bs (par9 p.data.toList))) ∧ Below w.heap.size w w' := by
  have hz : p.size ≤ 100000 := by have := isP_len hP; rw [← Lib.size_eq] at this; omega
  have HC := Lib.hid (fun X => refSplit_any p hz X)
  have hnn : names p = prts p := names_pos hP
  have hn0 : pcs p.data.toList ≠ [] := mt (pcs_nil hP).1 h1
  have hl : (names p).length = (names p).dropLast.length + 1 := by
    rw [List.length_dropLast, hnn]
    have : 0 < (prts p).length := by unfold prts; rw [List.length_map]; exact List.length_pos_iff.2 hn0
    omega
  have HV := Lib.hid (show bs (pth (lists (names p).dropLast)) = bs (par9 p.data.toList) by
    rw [hnn]
    unfold par9
    rw [← lists_prts]
    unfold lists
    rw [List.map_dropLast])
  have H8 := Lib.hid (show ∀ x ∈ (names p).dropLast, x.size ≤ 8 from fun x hx => by
    have hx := List.dropLast_subset _ hx
    rw [hnn] at hx
    unfold prts at hx
    obtain ⟨y, hy, rfl⟩ := List.mem_map.1 hx
    rw [bs_size]
    exact nm_len (hP.2.2 y hy))
  have H6 := Lib.hid (names_len p)
  obtain ⟨ns, hns⟩ : ∃ ns, (names p).dropLast = ns := ⟨_, rfl⟩
  obtain ⟨m, hm⟩ : ∃ m, (names p).length = m := ⟨_, rfl⟩
  rw [hns] at HV H8 hl
  rw [hm] at hl H6
  have HNS := Lib.hid hns
  have HM := Lib.hid hm
  have HL := Lib.hid hl
  have hw : IntKind.i64.wrap ((m : Int) - 1) = (ns.length : Int) := by rw [hl]; rw [show ((ns.length + 1 : Nat) : Int) - 1 = (ns.length : Int) by omega]; exact IntWalk.i64_in _ (by have := H6.out; omega)
  have hle : (ns.length : Int) ≤ (m : Int) := by omega
  clear hz hP h1 hnn hn0 hl hns hm
  go_enter Tryd.func43, Tryd.ntmps43
  go_wp2_with fail
  refine (HC.out _).mono ?_
  rintro e w1 ⟨a, cap, rfl, hr, hb1⟩
  rw [HM.out]
  have HB := Lib.hid hb1
  have HR := Lib.hid (show Row w1 a cap ns by have := row_init hr; rw [HNS.out] at this; exact this)
  have hcap : m ≤ cap := by have := hr.1; rw [HM.out] at this; exact this
  have hcap' : (ns.length : Int) ≤ (cap : Int) := by omega
  clear hr hb1
  go_wp2_with fail
  refine (refJoin9 ns _ _ _ HR.out (by have := H6.out; have := HL.out; omega) H8.out).mono ?_
  rintro e w2 ⟨rfl, rfl⟩
  go_wp2
  go_ret
  exact ⟨by rw [← HV.out]; rfl, HB.out⟩
end Go.Proofs.YtflomllfehoedaaDoor
