/-
  An error of a number, wrapped or not: fail.Code of it; it stays while what is written lies above it. Condition: errorType holds error's type.
  Contracts of errors.As and fail.Code at an error that is a bare number (nothing is wrapped round it): the number is found. Condition: errorType holds error's type.
  An error of a number as a value (0: none), and fail.Code of it. Condition: errorType holds error's type.
  An error of a number, wrapped or not, or nil, as a value: fail.Code of it; what a walk carries from world to world. Condition: errorType holds error's type.
  What package look's At and Dir answer of a stack, as one statement (Look12): the laws of layer 12 are walked over it; Shows, one of its own (Shows12). Conditions: a stack in memory, of at most 100 layers, each of at most 1000 entries whose texts have at most 100000 bytes; errorType holds error's type.
  What Two answers of two layers, what a stack shows, by lists. No condition.
  What package merge's Two and Bottom answer, one statement each (Two15, Bot15); what layer.Right, fold.Tree and fold.Stack answer (Right15, Tree15, Stack15): the laws of layer 15 are walked over them. Conditions: layers in memory, of at most 1000 entries whose texts have at most 100000 bytes; stacks of at most 100 such layers; errorType holds error's type.
  Where in a rising list an entry at a path stands or would stand: what stands ahead of it, the entry there, the list with one put there and without it. No condition.
-/
import Derived.Test.YtlnjbadbpddlmaaGreatDoorS3Path
import Derived.Test.YtlnjbadbpddlmaaGreatDoorAs
import Derived.Deep.LoopGhost
import Derived.Test.YtlnjbadbpddlmaaGreatDoorPc
import Derived.Test.YtlnjbadbpddlmaaGreatDoorPb
namespace Go.Proofs.YtlnjbadbpddlmaaGreatDoor
open Go.RowKit

theorem code_isErr (n : Int) (v : Value) (w : World) (h : IsErr w n v) (hg : EtLaid w) : Calls Tryz.prog 8 #[v] w fun e w' => e = .returned (.int .i64 n) ∧ Below w.heap.size w w' := by
  obtain ⟨l, hl⟩ := h
  exact code_chain l n v w hl hg
theorem IsErr.below {w w' : World} {n : Int} {v : Value} (h : IsErr w n v) (hb : Below w.heap.size w w') : IsErr w' n v := by
  obtain ⟨l, hl⟩ := h
  exact ⟨l, hl.below hb⟩
theorem IsErr.iface {w : World} {n : Int} {v : Value} (h : IsErr w n v) : ∃ u y, v = .iface u y := by
  obtain ⟨l, hl⟩ := h
  exact hl.iface
theorem isErr_no (w : World) (n : Int) : IsErr w n (.iface 43 (.int .i64 n)) := ⟨[], rfl⟩
end Go.Proofs.YtlnjbadbpddlmaaGreatDoor

namespace Go.Proofs.YtlnjbadbpddlmaaGreatDoor
open Go.RowKit Go.Extern.Stop Go.Stop Go.Extern

set_option maxHeartbeats 4000000 in
/-- errors.as at a bare number, the target a variable of type Errno: the number is found. -/
theorem as_no0 (n : Int) (t a : Addr) (old : Value) (w : World)
    (ha : w.cell? a = some (.pointer (some t))) (ht : w.cell? t = some old) (hf : w.frozen? t = false) :
    Calls Tryz.prog 27 #[.iface 43 (.int .i64 n), .iface 48 (.pointer (some t)), .agg #[.pointer (some ⟨2, 48, none⟩), .pointer (some a), .int .u64 150], .iface 79 (.agg #[.pointer (some ⟨2, 43, none⟩)])] w
      fun ev w' => ev = .returned (.bool true) ∧ ((w.alloc (.cells #[.pointer (some ⟨2, 48, none⟩), .pointer (some a), .int .u64 150] 58)).alloc (.cells #[.int .i64 n] 43)).setCell t (.int .i64 n) = w' := by
  have x1 := Tryz.xTypeOf
  have x2 := Tryz.xTAssign
  have x3 := Tryz.xValueOf
  have x4 := Tryz.xVElem
  have x5 := Tryz.xVSet
  have t1 := Tryz.typeOfNo
  have m1 := Tryz.methodAssignableTo
  have a1 := Tryz.assignNoNo
  have v1 := Tryz.valueOfNo
  have hal := lt_of_cell ha
  have htl := lt_of_cell ht
  have el := Tryz.elemVPNo a t (w.alloc (.cells #[.pointer (some ⟨2, 48, none⟩), .pointer (some a), .int .u64 150] 58)) (by rw [World.cell?_alloc_lt _ _ a hal]; exact ha)
  have st := Tryz.setNo t ⟨w.heap.size + 1, 0, none⟩ n old ((w.alloc (.cells #[.pointer (some ⟨2, 48, none⟩), .pointer (some a), .int .u64 150] 58)).alloc (.cells #[.int .i64 n] 43))
    (by rw [World.cell?_alloc_at _ _ _ _ (by simp)]; rfl)
    (by rw [World.cell?_alloc_lt _ _ t (by simp; omega), World.cell?_alloc_lt _ _ t htl]; exact ht)
    (by rw [World.frozen?_alloc_old _ _ t (by simp; omega), World.frozen?_alloc_old _ _ t (Nat.ne_of_lt htl)]; exact hf)
  clear ha ht hf
  go_enter Tryz.func27, Tryz.ntmps27
  go_wp2
  go_loopg [0] 0 (fun _ p wr => w.alloc (.cells #[.pointer (some ⟨2, 48, none⟩), .pointer (some a), .int .u64 150] 58) = wr ∧ p = Value.iface 43 (.int .i64 n))
  case atStart => exact ⟨rfl, rfl⟩
  case round =>
    obtain ⟨rfl, rfl⟩ := hrel
    go_wp2
    go_ret
    exact ⟨rfl, rfl⟩

set_option maxHeartbeats 4000000 in
/-- errors.As at a bare number, the target a variable of type Errno: true, the variable set. -/
theorem asNo0 (n : Int) (t : Addr) (old : Value) (w : World) (hg : EtLaid w) (ht : w.cell? t = some old) (hf : w.frozen? t = false) :
    Calls Tryz.prog 16 #[.iface 43 (.int .i64 n), .iface 48 (.pointer (some t))] w
      fun ev w' => ev = .returned (.bool true) ∧ ∃ w1, Below w.heap.size w w1 ∧ w1.setCell t (.int .i64 n) = w' := by
  have x1 := Tryz.xValueOf
  have x2 := Tryz.xVType
  have x3 := Tryz.xKind
  have x4 := Tryz.xVIsNil
  have x5 := Tryz.xTElem
  have x6 := Tryz.xTImpl
  have v1 := Tryz.valueOfPNo
  have t1 := Tryz.typePNo
  have m1 := Tryz.methodKind
  have m2 := Tryz.methodElem
  have m3 := Tryz.methodImplements
  have k1 := Tryz.kindPNo
  have k2 := Tryz.kindNo
  have e1 := Tryz.elemPNo
  have i1 := Tryz.implementsNo
  have htl := lt_of_cell ht
  have n1 := Tryz.isNilPNo ⟨w.heap.size, 0, none⟩ t ((w.alloc (.cells #[.pointer (some t)] 48)).alloc (.cells #[.pointer (some ⟨2, 48, none⟩), .pointer (some ⟨w.heap.size, 0, none⟩), .int .u64 150] 58)) (by simp)
  have hb : Below w.heap.size w ((w.alloc (.cells #[.pointer (some t)] 48)).alloc (.cells #[.pointer (some ⟨2, 48, none⟩), .pointer (some ⟨w.heap.size, 0, none⟩), .int .u64 150] 58)) := ((Below.refl _ _).alloc (Nat.le_refl _) _).alloc (by simp) _
  have hg2 : ((w.alloc (.cells #[.pointer (some t)] 48)).alloc (.cells #[.pointer (some ⟨2, 48, none⟩), .pointer (some ⟨w.heap.size, 0, none⟩), .int .u64 150] 58)).cell? ⟨0, 0, none⟩ = some (.iface 79 (.agg #[.pointer (some ⟨2, 29, none⟩)])) := hg.below hg.lt hb
  have H := as_no0 n t ⟨w.heap.size, 0, none⟩ old ((w.alloc (.cells #[.pointer (some t)] 48)).alloc (.cells #[.pointer (some ⟨2, 48, none⟩), .pointer (some ⟨w.heap.size, 0, none⟩), .int .u64 150] 58)) (by simp) ((hb.cell htl).trans ht) ((hb.frozen htl).trans hf)
  have HH := Lib.hid H
  have HB := Lib.hid hb
  clear H hb hg ht hf
  go_enter Tryz.func16, Tryz.ntmps16
  go_wp2_with (go_at_call 27; refine (HH.out).mono ?_; rintro e w' ⟨rfl, rfl⟩)
  go_ret
  exact ⟨rfl, _, ((HB.out.alloc (by simp; omega) _).alloc (by simp; omega) _), rfl⟩

set_option maxHeartbeats 1000000 in
theorem code_no (n : Int) (w : World) (hg : EtLaid w) :
    Calls Tryz.prog 8 #[.iface 43 (.int .i64 n)] w fun e w' => e = .returned (.int .i64 n) ∧ Below w.heap.size w w' := by
  have hb0 : Below w.heap.size w (w.alloc (.cells #[.int .i64 0] 43)) := (Below.refl _ _).alloc (Nat.le_refl _) _
  have HC := Lib.hid (asNo0 n ⟨w.heap.size, 0, none⟩ (.int .i64 0) (w.alloc (.cells #[.int .i64 0] 43)) (hg.below hg.lt hb0) (by simp) (by simp))
  have HB0 := Lib.hid hb0
  clear hg hb0
  go_enter Tryz.func8, Tryz.ntmps8
  go_wp2_with fail
  refine HC.out.mono ?_
  rintro e w' ⟨rfl, w1, hb1, rfl⟩
  have hc : w1.cell? ⟨w.heap.size, 0, none⟩ = some (.int .i64 0) := (hb1.cell (p := ⟨w.heap.size, 0, none⟩) (by simp)).trans (by simp)
  have hc1 : (w1.setCell ⟨w.heap.size, 0, none⟩ (.int .i64 n)).cell? ⟨w.heap.size, 0, none⟩ = some (.int .i64 n) := World.cell?_setCell_same _ _ _ hc
  have HB1 := Lib.hid hb1
  clear hb1 hc
  go_wp2
  go_ret
  exact ⟨rfl, (HB0.out.trans (HB1.out.mono (by simp))).setCell (p := ⟨w.heap.size, 0, none⟩) (Nat.le_refl _) _⟩
theorem code_zero (w : World) : Calls Tryz.prog 8 #[.nilIface] w fun e w' => e = .returned (.int .i64 0) ∧ w = w' := by
  go_enter Tryz.func8, Tryz.ntmps8
  go_wp2
  go_ret
  exact ⟨rfl, rfl⟩
end Go.Proofs.YtlnjbadbpddlmaaGreatDoor

namespace Go.Proofs.YtlnjbadbpddlmaaGreatDoor
open Go.RowKit

/-- An error of that number; nil, if it is 0. -/
def errV (n : Int) : Value := if n = 0 then .nilIface else .iface 43 (.int .i64 n)
theorem code_err (n : Int) (w : World) (hg : EtLaid w) : Calls Tryz.prog 8 #[errV n] w fun e w' => e = .returned (.int .i64 n) ∧ Below w.heap.size w w' := by
  unfold errV
  split
  · rename_i h
    subst h
    refine (code_zero w).mono ?_
    rintro e w' ⟨rfl, rfl⟩
    exact ⟨rfl, Below.refl _ _⟩
  · exact code_no n w hg
end Go.Proofs.YtlnjbadbpddlmaaGreatDoor

namespace Go.Proofs.YtlnjbadbpddlmaaGreatDoor
open Go.RowKit

/-- An error of a number, wrapped or not; nil, if it is 0. -/
def Er (w : World) (n : Int) (v : Value) : Prop := (n = 0 ∧ v = .nilIface) ∨ (n ≠ 0 ∧ IsErr w n v)
theorem Er.below {w w' : World} {n : Int} {v : Value} (h : Er w n v) (hb : Below w.heap.size w w') : Er w' n v := h.imp_right fun ⟨a, b⟩ => ⟨a, b.below hb⟩
theorem er_nil (w : World) : Er w 0 .nilIface := .inl ⟨rfl, rfl⟩
theorem code_er (n : Int) (v : Value) (w : World) (h : Er w n v) (hg : EtLaid w) : Calls Tryz.prog 8 #[v] w fun e w' => e = .returned (.int .i64 n) ∧ Below w.heap.size w w' := by
  rcases h with ⟨rfl, rfl⟩ | ⟨_, h⟩
  · refine (code_zero w).mono ?_
    rintro e w' ⟨rfl, rfl⟩
    exact ⟨rfl, Below.refl _ _⟩
  · exact code_isErr n v w h hg
/-- What was there when the call began is as it was; errorType holds error's type. -/
structure St (W w : World) : Prop where
  below : Below W.heap.size W w
  et : EtLaid w
theorem st_self {w : World} (h : EtLaid w) : St w w := ⟨Below.refl _ _, h⟩
theorem St.next {W w w' : World} (h : St W w) (hb : Below w.heap.size w w') : St W w' := ⟨h.below.trans (hb.mono h.below.size), h.et.below h.et.lt hb⟩
theorem St.old {W w w' : World} (h : St W w) (hb : OldC w w') : St W w' := h.next hb
end Go.Proofs.YtlnjbadbpddlmaaGreatDoor

namespace Go.Proofs.YtlnjbadbpddlmaaGreatDoor
open Go.RowKit

/-- Found, as a value. -/
abbrev fdnV (x : Ent × Nat) : Value := .agg #[.string x.1.1, .int .i64 x.1.2.1, .string x.1.2.2, .int .i64 (x.2 : Int)]
/-- A stack that can be looked at. -/
def LkOK (S : List (List Ent)) : Prop := S.length ≤ 9 ∧ ∀ l ∈ S, RightL l
instance (S : List (List Ent)) : Decidable (LkOK S) := inferInstanceAs (Decidable (_ ∧ _))
/-- At: the error, the entry, the floor. -/
def lkV (S : List (List Ent)) (p : List UInt8) : Int × Ent × Nat := if LkOK S then atS S p else (16, noE, 0)
/-- Dir: the error, the floor. -/
def drV (S : List (List Ent)) (p : List UInt8) : Int × Nat := if (lkV S p).1 ≠ 0 then ((lkV S p).1, 0) else if (lkV S p).2.1.2.1 ≠ 2 then (6, 0) else (0, (lkV S p).2.2)
theorem lkV_ok {S : List (List Ent)} (h : LkOK S) (p : List UInt8) : lkV S p = atS S p := if_pos h
theorem lkV_bad {S : List (List Ent)} (h : ¬ LkOK S) (p : List UInt8) : lkV S p = (16, noE, 0) := if_neg h
theorem lkV_err {S : List (List Ent)} {p : List UInt8} (h : (lkV S p).1 ≠ 0) : (lkV S p).2 = (noE, 0) := by
  by_cases hS : LkOK S
  · rw [lkV_ok hS] at h ⊢
    exact atS_err S h
  · rw [lkV_bad hS]
end Go.Proofs.YtlnjbadbpddlmaaGreatDoor

namespace Go.Proofs.YtlnjbadbpddlmaaGreatDoor
open Go.RowKit

/-- Two: the error, the layer. -/
def twV (low high : List Ent) (b : Bool) : Int × List Ent := if ¬ (RightL low ∧ RightL high) then (16, []) else if 64 < (two15 low high b).length then (9, []) else (0, two15 low high b)
/-- What a stack shows. -/
def fsV (S : List (List Ent)) : List Ent := if LkOK S then stk S else []
section
variable {low high : List Ent} {b : Bool}
theorem tw_zero (h : (twV low high b).1 = 0) : RightL low ∧ RightL high ∧ (twV low high b).2 = two15 low high b ∧ RightL (two15 low high b) := by
  unfold twV at h ⊢
  by_cases h1 : RightL low ∧ RightL high
  · rw [if_neg (not_not_intro h1)] at h ⊢
    by_cases h2 : 64 < (two15 low high b).length
    · rw [if_pos h2] at h
      have : (9 : Int) = 0 := h
      omega
    · rw [if_neg h2]
      exact ⟨h1.1, h1.2, rfl, by omega, rl_two h1.1.2 h1.2.2 b⟩
  · rw [if_pos h1] at h
    have : (16 : Int) = 0 := h
    omega
theorem tw_ok (h1 : RightL low) (h2 : RightL high) (h3 : (two15 low high b).length ≤ 64) : twV low high b = (0, two15 low high b) := by
  unfold twV
  rw [if_neg (not_not_intro ⟨h1, h2⟩), if_neg (by omega)]
theorem tw_bad (h : ¬ (RightL low ∧ RightL high)) : twV low high b = (16, []) := if_pos h
theorem tw_full (h1 : RightL low) (h2 : RightL high) (h3 : 64 < (two15 low high b).length) : twV low high b = (9, []) := by
  unfold twV
  rw [if_neg (not_not_intro ⟨h1, h2⟩), if_pos h3]
theorem tw_cases (low high : List Ent) (b : Bool) : (¬ (RightL low ∧ RightL high) ∧ twV low high b = (16, [])) ∨ (RightL low ∧ RightL high ∧ 64 < (two15 low high b).length ∧ twV low high b = (9, [])) ∨ (RightL low ∧ RightL high ∧ (two15 low high b).length ≤ 64 ∧ twV low high b = (0, two15 low high b)) := by
  by_cases h1 : RightL low ∧ RightL high
  · by_cases h2 : 64 < (two15 low high b).length
    · exact .inr (.inl ⟨h1.1, h1.2, h2, tw_full h1.1 h1.2 h2⟩)
    · exact .inr (.inr ⟨h1.1, h1.2, by omega, tw_ok h1.1 h1.2 (by omega)⟩)
  · exact .inl ⟨h1, tw_bad h1⟩
end
end Go.Proofs.YtlnjbadbpddlmaaGreatDoor

namespace Go.Proofs.YtlnjbadbpddlmaaGreatDoor
open Go.RowKit

def Bot15 : Prop := ∀ l a c w, EtLaid w → Ents w a c l → RightL l → Calls Tryz.prog 19 #[.slice a l.length c] w fun e w' => ∃ a' c', e = .returned (.slice a' (bot15 l).length c') ∧ Ents w' a' c' (bot15 l) ∧ Below w.heap.size w w'
def Right15 : Prop := ∀ l a cap w, EtLaid w → Ents w a cap l → Sm l → Calls Tryz.prog 14 #[.slice a l.length cap] w fun e w' => e = .returned (.bool (decide (RightL l))) ∧ Below w.heap.size w w'
def Stack15 : Prop := ∀ S a cap w, EtLaid w → Stk w a cap S → S.length ≤ 100 → (∀ l ∈ S, Sm l) → Calls Tryz.prog 12 #[.slice a S.length cap] w fun e w' => ∃ a' cap', e = .returned (.slice a' (fsV S).length cap') ∧ Ents w' a' cap' (fsV S) ∧ Below w.heap.size w w'
end Go.Proofs.YtlnjbadbpddlmaaGreatDoor

namespace Go.Proofs.YtlnjbadbpddlmaaGreatDoor
open Go.RowKit

/-- How many entries stand ahead of a path. -/
def plc (l : List Ent) (p : List UInt8) : Nat := (l.filter fun a => lt8 (pl a) p).length
theorem plc_split {l : List Ent} (h : Asc l) (p : List UInt8) : l.take (plc l p) = l.filter (fun a => lt8 (pl a) p) ∧ l.drop (plc l p) = l.filter (fun a => !lt8 (pl a) p) := by
  induction l with
  | nil => exact ⟨rfl, rfl⟩
  | cons x r ih =>
    obtain ⟨h1, h2⟩ := List.pairwise_cons.1 h
    obtain ⟨i1, i2⟩ := ih h2
    unfold plc at i1 i2 ⊢
    cases hx : lt8 (pl x) p with
    | true =>
      rw [List.filter_cons_of_pos (by simpa using hx), List.filter_cons_of_neg (by simp [hx]), List.length_cons, List.take_succ_cons, List.drop_succ_cons, i1]
      exact ⟨rfl, i2⟩
    | false =>
      have h3 : ∀ y ∈ x :: r, lt8 (pl y) p = false := fun y hy => by
        rcases List.mem_cons.1 hy with rfl | hy
        · exact hx
        · cases h4 : lt8 (pl y) p with
          | false => rfl
          | true => have := lt8_trans (h1 y hy) h4; rw [hx] at this; cases this
      rw [List.filter_eq_nil_iff.2 fun y hy => by rw [h3 y hy]; simp, List.filter_eq_self.2 fun y hy => by rw [h3 y hy]; rfl]
      exact ⟨rfl, rfl⟩
theorem plc_le (l : List Ent) (p : List UInt8) : plc l p ≤ l.length := List.length_filter_le _ _
theorem plc_at {l : List Ent} (h : Asc l) (p : List UInt8) {i : Nat} (hi : i < l.length) : lt8 (pl l[i]) p = decide (i < plc l p) := by
  obtain ⟨h1, h2⟩ := plc_split h p
  by_cases hk : i < plc l p
  · rw [decide_eq_true hk]
    have : l[i] ∈ l.take (plc l p) := by
      rw [List.mem_take_iff_getElem]
      exact ⟨i, by omega, rfl⟩
    rw [h1] at this
    simpa using (List.mem_filter.1 this).2
  · rw [decide_eq_false hk]
    have : l[i] ∈ l.drop (plc l p) := by
      rw [List.mem_drop_iff_getElem]
      refine ⟨i - plc l p, by omega, ?_⟩
      congr 1
      omega
    rw [h2] at this
    simpa using (List.mem_filter.1 this).2
/-- What stands there. -/
theorem plc_fnd {l : List Ent} (h : Asc l) (p : List UInt8) : fnd l p = (l[plc l p]?).bind fun e => if pl e = p then some e else none := by
  obtain ⟨h1, h2⟩ := plc_split h p
  have hA : ∀ e ∈ l.take (plc l p), pl e ≠ p := fun e he => by
    rw [h1] at he
    exact lt8_ne (by simpa using (List.mem_filter.1 he).2)
  have hf : fnd l p = fnd (l.drop (plc l p)) p := by
    conv => lhs; rw [← List.take_append_drop (plc l p) l]
    unfold fnd
    rw [List.find?_append, List.find?_eq_none.2 fun e he => by simpa using hA e he]
    rfl
  have hd : Asc (l.drop (plc l p)) := List.Pairwise.sublist (List.drop_sublist _ _) h
  have hg : l[plc l p]? = (l.drop (plc l p))[0]? := by simp
  rw [hf, hg]
  have hB : ∀ e ∈ l.drop (plc l p), lt8 (pl e) p = false := fun e he => by
    rw [h2] at he
    simpa using (List.mem_filter.1 he).2
  cases hD : l.drop (plc l p) with
  | nil => rfl
  | cons x r =>
    rw [hD] at hd hB
    show fnd (x :: r) p = if pl x = p then some x else none
    split
    · rename_i hp
      unfold fnd
      rw [List.find?_cons_of_pos (by simpa using hp)]
    · rename_i hp
      rw [fnd_none]
      intro y hy
      rcases List.mem_cons.1 hy with rfl | hy
      · exact hp
      · intro e0
        have h3 := (List.pairwise_cons.1 hd).1 y hy
        rw [e0, hB x List.mem_cons_self] at h3
        cases h3
theorem plc_some {l : List Ent} (h : Asc l) {p : List UInt8} {e : Ent} (he : fnd l p = some e) : ∃ hk : plc l p < l.length, l[plc l p] = e ∧ pl e = p := by
  rw [plc_fnd h p] at he
  cases hg : l[plc l p]? with
  | none => rw [hg] at he; cases he
  | some x =>
    rw [hg, Option.bind_some] at he
    obtain ⟨hk, hx⟩ := List.getElem?_eq_some_iff.1 hg
    split at he
    · rename_i hp
      cases he
      exact ⟨hk, hx, hp⟩
    · cases he
theorem gt_drop {l : List Ent} (h : Asc l) (p : List UInt8) : l.filter (fun a => lt8 p (pl a)) = (l.drop (plc l p)).filter (fun a => lt8 p (pl a)) := by
  obtain ⟨h1, h2⟩ := plc_split h p
  conv => lhs; rw [← List.take_append_drop (plc l p) l]
  rw [List.filter_append, List.filter_eq_nil_iff.2, List.nil_append]
  intro e he
  rw [h1] at he
  have : lt8 (pl e) p = true := by simpa using (List.mem_filter.1 he).2
  rw [lt8_asymm this]
  simp
theorem wth_new {l : List Ent} (h : Asc l) {e : Ent} (hn : fnd l (pl e) = none) : wth l e = l.take (plc l (pl e)) ++ ([e] ++ l.drop (plc l (pl e))) := by
  obtain ⟨h1, h2⟩ := plc_split h (pl e)
  have h5 : (l.drop (plc l (pl e))).filter (fun a => lt8 (pl e) (pl a)) = l.drop (plc l (pl e)) := List.filter_eq_self.2 fun a ha => by
    have h3 : a ∈ l := List.mem_of_mem_drop ha
    rw [h2] at ha
    have h4 : lt8 (pl a) (pl e) = false := by simpa using (List.mem_filter.1 ha).2
    rcases lt8_tri (pl a) (pl e) with h | h | h
    · exact absurd h (fnd_none.1 hn a h3)
    · rw [h4] at h; cases h
    · exact h
  unfold wth
  rw [gt_drop h, h1, h5]
  rfl
theorem drop_plc {l : List Ent} (h : Asc l) {p : List UInt8} {x : Ent} (hn : fnd l p = some x) : l.drop (plc l p) = x :: l.drop (plc l p + 1) ∧ pl x = p ∧ ∀ y ∈ l.drop (plc l p + 1), lt8 p (pl y) = true := by
  obtain ⟨hk, hx, hp⟩ := plc_some h hn
  have hd : Asc (l.drop (plc l p)) := List.Pairwise.sublist (List.drop_sublist _ _) h
  have he := List.drop_eq_getElem_cons hk
  rw [hx] at he
  refine ⟨he, hp, fun y hy => ?_⟩
  unfold Asc at hd
  rw [he] at hd
  rw [← hp]
  exact (List.pairwise_cons.1 hd).1 y hy
theorem wth_old {l : List Ent} (h : Asc l) {e x : Ent} (hn : fnd l (pl e) = some x) : wth l e = l.take (plc l (pl e)) ++ ([e] ++ l.drop (plc l (pl e) + 1)) := by
  obtain ⟨h1, _⟩ := plc_split h (pl e)
  obtain ⟨h3, h4, h5⟩ := drop_plc h hn
  unfold wth
  rw [gt_drop h, h1, h3, List.filter_cons_of_neg (by rw [h4, lt8_irr]; simp), List.filter_eq_self.2 h5]
  rfl
theorem wout_old {l : List Ent} (h : Asc l) {p : List UInt8} {x : Ent} (hn : fnd l p = some x) : wout l p = l.take (plc l p) ++ l.drop (plc l p + 1) := by
  obtain ⟨h1, _⟩ := plc_split h p
  obtain ⟨h3, h4, h5⟩ := drop_plc h hn
  unfold wout
  conv => lhs; rw [← List.take_append_drop (plc l p) l]
  rw [List.filter_append, h3, List.filter_cons_of_neg (by simp [h4]), List.filter_eq_self.2, List.filter_eq_self.2]
  · intro a ha
    have := lt8_ne (h5 a ha)
    simpa using fun e0 => this e0.symm
  · intro a ha
    rw [h1] at ha
    have : lt8 (pl a) p = true := by simpa using (List.mem_filter.1 ha).2
    simpa using lt8_ne this
theorem Ents.take {w : World} {a : Option Addr} {cap : Nat} {l : List Ent} (h : Ents w a cap l) (n : Nat) : Ents w a cap (l.take n) := by
  obtain ⟨h1, h2⟩ := h
  refine ⟨by rw [List.length_take]; omega, ?_⟩
  rcases h2 with rfl | ⟨b, off, rfl, hlt, hc⟩
  · exact .inl (by simp)
  · refine .inr ⟨b, off, rfl, hlt, fun j x hx => hc j x ?_⟩
    rw [List.getElem?_take] at hx
    split at hx
    · exact hx
    · cases hx
/-- A list without its first n entries. -/
theorem Ents.drop {w : World} {b off cap : Nat} {l : List Ent} (h : Ents w (some ⟨b, off, none⟩) cap l) (n : Nat) (hn : n ≤ l.length) : Ents w (some ⟨b, off + n * 3, none⟩) (cap - n) (l.drop n) := by
  obtain ⟨h1, h2⟩ := h
  refine ⟨by rw [List.length_drop]; omega, ?_⟩
  rcases h2 with rfl | ⟨b', off', e0, hlt, hc⟩
  · exact .inl (by simp)
  · cases e0
    refine .inr ⟨b, off + n * 3, rfl, hlt, fun j x hx => ?_⟩
    rw [List.getElem?_drop] at hx
    have := hc (n + j) x hx
    rwa [show off + (n + j) * 3 = off + n * 3 + j * 3 by omega] at this
end Go.Proofs.YtlnjbadbpddlmaaGreatDoor
