/-
  An error of a number, wrapped or not: fail.Code of it; it stays while what is written lies above it. Condition: errorType holds error's type.
  Contracts of errors.As and fail.Code at an error that is a bare number (nothing is wrapped round it): the number is found. Condition: errorType holds error's type.
  An error of a number as a value (0: none), and fail.Code of it. Condition: errorType holds error's type.
  An error of a number, wrapped or not, or nil, as a value: fail.Code of it; what a walk carries from world to world. Condition: errorType holds error's type.
  What package look's At and Dir answer of a stack, as one statement (Look12): the laws of layer 12 are walked over it; Shows, one of its own (Shows12). Conditions: a stack in memory, of at most 100 layers, each of at most 1000 entries whose texts have at most 100000 bytes; errorType holds error's type.
  What Two answers of two layers, what a stack shows, by lists. No condition.
  What package merge's Two and Bottom answer, one statement each (Two15, Bot15); what layer.Right, fold.Tree and fold.Stack answer (Right15, Tree15, Stack15): the laws of layer 15 are walked over them. Conditions: layers in memory, of at most 1000 entries whose texts have at most 100000 bytes; stacks of at most 100 such layers; errorType holds error's type.
  Where in a rising list an entry at a path stands or would stand: what stands ahead of it, the entry there, the list with one put there and without it. No condition.
  Contracts of strings.Compare; what a comparison of two texts tells. No condition.
  A look.Found in memory (four cells). No condition.
  Contracts of package look's closure that compares an entry with a path, of slices.BinarySearchFunc with it, and of entryAt: the entry at a path of a rising list, if there is one. Conditions: the list lies in memory, rises, has at most 1000 entries.
  What package look's loops come to, by lists: the layers of a stack asked from the last one down (asked), and a path's names, one behind the other (lying). No condition.
  The contract of package look's asked: what lies at a path whose directory's floor is told, the layers of a stack asked from the last one down. Conditions: a stack in memory that can be looked at.
-/
import Derived.Test.YtlncdmdffpaojaaGreatDoorS3Path
import Derived.Test.YtlncdmdffpaojaaGreatDoorAs
import Derived.Deep.LoopGhost
import Derived.Test.YtlncdmdffpaojaaGreatDoorPc
import Derived.Test.YtlncdmdffpaojaaGreatDoorPb
import Derived.Lib.Bytealg
import Derived.Lib.Hide
import Derived.IntWalk
import Derived.Laws.Cover1
import Derived.Laws.ResultCell
namespace Go.Proofs.YtlncdmdffpaojaaGreatDoor
open Go.RowKit

theorem code_isErr (n : Int) (v : Value) (w : World) (h : IsErr w n v) (hg : EtLaid w) : Calls Tryz.prog 9 #[v] w fun e w' => e = .returned (.int .i64 n) ∧ Below w.heap.size w w' := by
  obtain ⟨l, hl⟩ := h
  exact code_chain l n v w hl hg
theorem IsErr.below {w w' : World} {n : Int} {v : Value} (h : IsErr w n v) (hb : Below w.heap.size w w') : IsErr w' n v := by
  obtain ⟨l, hl⟩ := h
  exact ⟨l, hl.below hb⟩
theorem IsErr.iface {w : World} {n : Int} {v : Value} (h : IsErr w n v) : ∃ u y, v = .iface u y := by
  obtain ⟨l, hl⟩ := h
  exact hl.iface
theorem isErr_no (w : World) (n : Int) : IsErr w n (.iface 51 (.int .i64 n)) := ⟨[], rfl⟩
end Go.Proofs.YtlncdmdffpaojaaGreatDoor

namespace Go.Proofs.YtlncdmdffpaojaaGreatDoor
open Go.RowKit Go.Extern.Stop Go.Stop Go.Extern

set_option maxHeartbeats 4000000 in
/-- errors.as at a bare number, the target a variable of type Errno: the number is found. -/
theorem as_no0 (n : Int) (t a : Addr) (old : Value) (w : World)
    (ha : w.cell? a = some (.pointer (some t))) (ht : w.cell? t = some old) (hf : w.frozen? t = false) :
    Calls Tryz.prog 49 #[.iface 51 (.int .i64 n), .iface 55 (.pointer (some t)), .agg #[.pointer (some ⟨2, 55, none⟩), .pointer (some a), .int .u64 150], .iface 115 (.agg #[.pointer (some ⟨2, 51, none⟩)])] w
      fun ev w' => ev = .returned (.bool true) ∧ ((w.alloc (.cells #[.pointer (some ⟨2, 55, none⟩), .pointer (some a), .int .u64 150] 80)).alloc (.cells #[.int .i64 n] 51)).setCell t (.int .i64 n) = w' := by
  have x1 := Tryz.xTypeOf
  have x2 := Tryz.xTAssign
  have x3 := Tryz.xValueOf
  have x4 := Tryz.xVElem
  have x5 := Tryz.xVSet
  have t1 := Tryz.typeOfNo
  have m1 := Tryz.methodAssignableTo
  have a1 := Tryz.assignNoNo
  have v1 := Tryz.valueOfNo
  have hal := lt_of_cell ha
  have htl := lt_of_cell ht
  have el := Tryz.elemVPNo a t (w.alloc (.cells #[.pointer (some ⟨2, 55, none⟩), .pointer (some a), .int .u64 150] 80)) (by rw [World.cell?_alloc_lt _ _ a hal]; exact ha)
  have st := Tryz.setNo t ⟨w.heap.size + 1, 0, none⟩ n old ((w.alloc (.cells #[.pointer (some ⟨2, 55, none⟩), .pointer (some a), .int .u64 150] 80)).alloc (.cells #[.int .i64 n] 51))
    (by rw [World.cell?_alloc_at _ _ _ _ (by simp)]; rfl)
    (by rw [World.cell?_alloc_lt _ _ t (by simp; omega), World.cell?_alloc_lt _ _ t htl]; exact ht)
    (by rw [World.frozen?_alloc_old _ _ t (by simp; omega), World.frozen?_alloc_old _ _ t (Nat.ne_of_lt htl)]; exact hf)
  clear ha ht hf
  go_enter Tryz.func49, Tryz.ntmps49
  go_wp2
  go_loopg [0] 0 (fun _ p wr => w.alloc (.cells #[.pointer (some ⟨2, 55, none⟩), .pointer (some a), .int .u64 150] 80) = wr ∧ p = Value.iface 51 (.int .i64 n))
  case atStart => exact ⟨rfl, rfl⟩
  case round =>
    obtain ⟨rfl, rfl⟩ := hrel
    go_wp2
    go_ret
    exact ⟨rfl, rfl⟩

set_option maxHeartbeats 4000000 in
/-- errors.As at a bare number, the target a variable of type Errno: true, the variable set. -/
theorem asNo0 (n : Int) (t : Addr) (old : Value) (w : World) (hg : EtLaid w) (ht : w.cell? t = some old) (hf : w.frozen? t = false) :
    Calls Tryz.prog 24 #[.iface 51 (.int .i64 n), .iface 55 (.pointer (some t))] w
      fun ev w' => ev = .returned (.bool true) ∧ ∃ w1, Below w.heap.size w w1 ∧ w1.setCell t (.int .i64 n) = w' := by
  have x1 := Tryz.xValueOf
  have x2 := Tryz.xVType
  have x3 := Tryz.xKind
  have x4 := Tryz.xVIsNil
  have x5 := Tryz.xTElem
  have x6 := Tryz.xTImpl
  have v1 := Tryz.valueOfPNo
  have t1 := Tryz.typePNo
  have m1 := Tryz.methodKind
  have m2 := Tryz.methodElem
  have m3 := Tryz.methodImplements
  have k1 := Tryz.kindPNo
  have k2 := Tryz.kindNo
  have e1 := Tryz.elemPNo
  have i1 := Tryz.implementsNo
  have htl := lt_of_cell ht
  have n1 := Tryz.isNilPNo ⟨w.heap.size, 0, none⟩ t ((w.alloc (.cells #[.pointer (some t)] 55)).alloc (.cells #[.pointer (some ⟨2, 55, none⟩), .pointer (some ⟨w.heap.size, 0, none⟩), .int .u64 150] 80)) (by simp)
  have hb : Below w.heap.size w ((w.alloc (.cells #[.pointer (some t)] 55)).alloc (.cells #[.pointer (some ⟨2, 55, none⟩), .pointer (some ⟨w.heap.size, 0, none⟩), .int .u64 150] 80)) := ((Below.refl _ _).alloc (Nat.le_refl _) _).alloc (by simp) _
  have hg2 : ((w.alloc (.cells #[.pointer (some t)] 55)).alloc (.cells #[.pointer (some ⟨2, 55, none⟩), .pointer (some ⟨w.heap.size, 0, none⟩), .int .u64 150] 80)).cell? ⟨0, 0, none⟩ = some (.iface 115 (.agg #[.pointer (some ⟨2, 29, none⟩)])) := hg.below hg.lt hb
  have H := as_no0 n t ⟨w.heap.size, 0, none⟩ old ((w.alloc (.cells #[.pointer (some t)] 55)).alloc (.cells #[.pointer (some ⟨2, 55, none⟩), .pointer (some ⟨w.heap.size, 0, none⟩), .int .u64 150] 80)) (by simp) ((hb.cell htl).trans ht) ((hb.frozen htl).trans hf)
  have HH := Lib.hid H
  have HB := Lib.hid hb
  clear H hb hg ht hf
  go_enter Tryz.func24, Tryz.ntmps24
  go_wp2_with (go_at_call 49; refine (HH.out).mono ?_; rintro e w' ⟨rfl, rfl⟩)
  go_ret
  exact ⟨rfl, _, ((HB.out.alloc (by simp; omega) _).alloc (by simp; omega) _), rfl⟩

set_option maxHeartbeats 1000000 in
theorem code_no (n : Int) (w : World) (hg : EtLaid w) :
    Calls Tryz.prog 9 #[.iface 51 (.int .i64 n)] w fun e w' => e = .returned (.int .i64 n) ∧ Below w.heap.size w w' := by
  have hb0 : Below w.heap.size w (w.alloc (.cells #[.int .i64 0] 51)) := (Below.refl _ _).alloc (Nat.le_refl _) _
  have HC := Lib.hid (asNo0 n ⟨w.heap.size, 0, none⟩ (.int .i64 0) (w.alloc (.cells #[.int .i64 0] 51)) (hg.below hg.lt hb0) (by simp) (by simp))
  have HB0 := Lib.hid hb0
  clear hg hb0
  go_enter Tryz.func9, Tryz.ntmps9
  go_wp2_with fail
  refine HC.out.mono ?_
  rintro e w' ⟨rfl, w1, hb1, rfl⟩
  have hc : w1.cell? ⟨w.heap.size, 0, none⟩ = some (.int .i64 0) := (hb1.cell (p := ⟨w.heap.size, 0, none⟩) (by simp)).trans (by simp)
  have hc1 : (w1.setCell ⟨w.heap.size, 0, none⟩ (.int .i64 n)).cell? ⟨w.heap.size, 0, none⟩ = some (.int .i64 n) := World.cell?_setCell_same _ _ _ hc
  have HB1 := Lib.hid hb1
  clear hb1 hc
  go_wp2
  go_ret
  exact ⟨rfl, (HB0.out.trans (HB1.out.mono (by simp))).setCell (p := ⟨w.heap.size, 0, none⟩) (Nat.le_refl _) _⟩
theorem code_zero (w : World) : Calls Tryz.prog 9 #[.nilIface] w fun e w' => e = .returned (.int .i64 0) ∧ w = w' := by
  go_enter Tryz.func9, Tryz.ntmps9
  go_wp2
  go_ret
  exact ⟨rfl, rfl⟩
end Go.Proofs.YtlncdmdffpaojaaGreatDoor

namespace Go.Proofs.YtlncdmdffpaojaaGreatDoor
open Go.RowKit

/-- An error of that number; nil, if it is 0. -/
def errV (n : Int) : Value := if n = 0 then .nilIface else .iface 51 (.int .i64 n)
theorem code_err (n : Int) (w : World) (hg : EtLaid w) : Calls Tryz.prog 9 #[errV n] w fun e w' => e = .returned (.int .i64 n) ∧ Below w.heap.size w w' := by
  unfold errV
  split
  · rename_i h
    subst h
    refine (code_zero w).mono ?_
    rintro e w' ⟨rfl, rfl⟩
    exact ⟨rfl, Below.refl _ _⟩
  · exact code_no n w hg
end Go.Proofs.YtlncdmdffpaojaaGreatDoor

namespace Go.Proofs.YtlncdmdffpaojaaGreatDoor
open Go.RowKit

/-- An error of a number, wrapped or not; nil, if it is 0. -/
def Er (w : World) (n : Int) (v : Value) : Prop := (n = 0 ∧ v = .nilIface) ∨ (n ≠ 0 ∧ IsErr w n v)
theorem Er.below {w w' : World} {n : Int} {v : Value} (h : Er w n v) (hb : Below w.heap.size w w') : Er w' n v := h.imp_right fun ⟨a, b⟩ => ⟨a, b.below hb⟩
theorem er_nil (w : World) : Er w 0 .nilIface := .inl ⟨rfl, rfl⟩
theorem code_er (n : Int) (v : Value) (w : World) (h : Er w n v) (hg : EtLaid w) : Calls Tryz.prog 9 #[v] w fun e w' => e = .returned (.int .i64 n) ∧ Below w.heap.size w w' := by
  rcases h with ⟨rfl, rfl⟩ | ⟨_, h⟩
  · refine (code_zero w).mono ?_
    rintro e w' ⟨rfl, rfl⟩
    exact ⟨rfl, Below.refl _ _⟩
  · exact code_isErr n v w h hg
/-- What was there when the call began is as it was; errorType holds error's type. -/
structure St (W w : World) : Prop where
  below : Below W.heap.size W w
  et : EtLaid w
theorem st_self {w : World} (h : EtLaid w) : St w w := ⟨Below.refl _ _, h⟩
theorem St.next {W w w' : World} (h : St W w) (hb : Below w.heap.size w w') : St W w' := ⟨h.below.trans (hb.mono h.below.size), h.et.below h.et.lt hb⟩
theorem St.old {W w w' : World} (h : St W w) (hb : OldC w w') : St W w' := h.next hb
end Go.Proofs.YtlncdmdffpaojaaGreatDoor

namespace Go.Proofs.YtlncdmdffpaojaaGreatDoor
open Go.RowKit

/-- Found, as a value. -/
abbrev fdnV (x : Ent × Nat) : Value := .agg #[.string x.1.1, .int .i64 x.1.2.1, .string x.1.2.2, .int .i64 (x.2 : Int)]
/-- A stack that can be looked at. -/
def LkOK (S : List (List Ent)) : Prop := S.length ≤ 9 ∧ ∀ l ∈ S, RightL l
instance (S : List (List Ent)) : Decidable (LkOK S) := inferInstanceAs (Decidable (_ ∧ _))
/-- At: the error, the entry, the floor. -/
def lkV (S : List (List Ent)) (p : List UInt8) : Int × Ent × Nat := if LkOK S then atS S p else (16, noE, 0)
/-- Dir: the error, the floor. -/
def drV (S : List (List Ent)) (p : List UInt8) : Int × Nat := if (lkV S p).1 ≠ 0 then ((lkV S p).1, 0) else if (lkV S p).2.1.2.1 ≠ 2 then (6, 0) else (0, (lkV S p).2.2)
def Look12 : Prop := ∀ S a cap p w, EtLaid w → Stk w a cap S → S.length ≤ 100 → (∀ l ∈ S, Sm l) → p.size ≤ 100000 → Calls Tryz.prog 10 #[.slice a S.length cap, .string p] w fun e w' => ∃ er, e = .returned (.tuple #[fdnV (lkV S p.data.toList).2, er]) ∧ Er w' (lkV S p.data.toList).1 er ∧ Below w.heap.size w w'
def Dir12 : Prop := ∀ S a cap p w, EtLaid w → Stk w a cap S → S.length ≤ 100 → (∀ l ∈ S, Sm l) → p.size ≤ 100000 → Calls Tryz.prog 28 #[.slice a S.length cap, .string p] w fun e w' => ∃ er, e = .returned (.tuple #[.int .i64 ((drV S p.data.toList).2 : Nat), er]) ∧ Er w' (drV S p.data.toList).1 er ∧ Below w.heap.size w w'
theorem lkV_ok {S : List (List Ent)} (h : LkOK S) (p : List UInt8) : lkV S p = atS S p := if_pos h
theorem lkV_bad {S : List (List Ent)} (h : ¬ LkOK S) (p : List UInt8) : lkV S p = (16, noE, 0) := if_neg h
theorem lkV_err {S : List (List Ent)} {p : List UInt8} (h : (lkV S p).1 ≠ 0) : (lkV S p).2 = (noE, 0) := by
  by_cases hS : LkOK S
  · rw [lkV_ok hS] at h ⊢
    exact atS_err S h
  · rw [lkV_bad hS]
end Go.Proofs.YtlncdmdffpaojaaGreatDoor

namespace Go.Proofs.YtlncdmdffpaojaaGreatDoor
open Go.RowKit

/-- Two: the error, the layer. -/
def twV (low high : List Ent) (b : Bool) : Int × List Ent := if ¬ (RightL low ∧ RightL high) then (16, []) else if 64 < (two15 low high b).length then (9, []) else (0, two15 low high b)
/-- What a stack shows. -/
def fsV (S : List (List Ent)) : List Ent := if LkOK S then stk S else []
section
variable {low high : List Ent} {b : Bool}
theorem tw_zero (h : (twV low high b).1 = 0) : RightL low ∧ RightL high ∧ (twV low high b).2 = two15 low high b ∧ RightL (two15 low high b) := by
  unfold twV at h ⊢
  by_cases h1 : RightL low ∧ RightL high
  · rw [if_neg (not_not_intro h1)] at h ⊢
    by_cases h2 : 64 < (two15 low high b).length
    · rw [if_pos h2] at h
      have : (9 : Int) = 0 := h
      omega
    · rw [if_neg h2]
      exact ⟨h1.1, h1.2, rfl, by omega, rl_two h1.1.2 h1.2.2 b⟩
  · rw [if_pos h1] at h
    have : (16 : Int) = 0 := h
    omega
theorem tw_ok (h1 : RightL low) (h2 : RightL high) (h3 : (two15 low high b).length ≤ 64) : twV low high b = (0, two15 low high b) := by
  unfold twV
  rw [if_neg (not_not_intro ⟨h1, h2⟩), if_neg (by omega)]
theorem tw_bad (h : ¬ (RightL low ∧ RightL high)) : twV low high b = (16, []) := if_pos h
theorem tw_full (h1 : RightL low) (h2 : RightL high) (h3 : 64 < (two15 low high b).length) : twV low high b = (9, []) := by
  unfold twV
  rw [if_neg (not_not_intro ⟨h1, h2⟩), if_pos h3]
theorem tw_cases (low high : List Ent) (b : Bool) : (¬ (RightL low ∧ RightL high) ∧ twV low high b = (16, [])) ∨ (RightL low ∧ RightL high ∧ 64 < (two15 low high b).length ∧ twV low high b = (9, [])) ∨ (RightL low ∧ RightL high ∧ (two15 low high b).length ≤ 64 ∧ twV low high b = (0, two15 low high b)) := by
  by_cases h1 : RightL low ∧ RightL high
  · by_cases h2 : 64 < (two15 low high b).length
    · exact .inr (.inl ⟨h1.1, h1.2, h2, tw_full h1.1 h1.2 h2⟩)
    · exact .inr (.inr ⟨h1.1, h1.2, by omega, tw_ok h1.1 h1.2 (by omega)⟩)
  · exact .inl ⟨h1, tw_bad h1⟩
end
end Go.Proofs.YtlncdmdffpaojaaGreatDoor

namespace Go.Proofs.YtlncdmdffpaojaaGreatDoor
open Go.RowKit

def Two15 : Prop := ∀ low a ca high b cb (bot : Bool) w, EtLaid w → Ents w a ca low → Ents w b cb high → Sm low → Sm high → Calls Tryz.prog 8 #[.slice a low.length ca, .slice b high.length cb, .bool bot] w fun e w' => ∃ a' c' er, e = .returned (.tuple #[.slice a' (twV low high bot).2.length c', er]) ∧ Ents w' a' c' (twV low high bot).2 ∧ Er w' (twV low high bot).1 er ∧ Below w.heap.size w w'
def Bot15 : Prop := ∀ l a c w, EtLaid w → Ents w a c l → RightL l → Calls Tryz.prog 23 #[.slice a l.length c] w fun e w' => ∃ a' c', e = .returned (.slice a' (bot15 l).length c') ∧ Ents w' a' c' (bot15 l) ∧ Below w.heap.size w w'
def Right15 : Prop := ∀ l a cap w, EtLaid w → Ents w a cap l → Sm l → Calls Tryz.prog 6 #[.slice a l.length cap] w fun e w' => e = .returned (.bool (decide (RightL l))) ∧ Below w.heap.size w w'
def Tree15 : Prop := ∀ l a cap w, EtLaid w → Ents w a cap l → Sm l → Calls Tryz.prog 76 #[.slice a l.length cap] w fun e w' => e = .returned (.bool (decide (TreeL l))) ∧ Below w.heap.size w w'
def Stack15 : Prop := ∀ S a cap w, EtLaid w → Stk w a cap S → S.length ≤ 100 → (∀ l ∈ S, Sm l) → Calls Tryz.prog 7 #[.slice a S.length cap] w fun e w' => ∃ a' cap', e = .returned (.slice a' (fsV S).length cap') ∧ Ents w' a' cap' (fsV S) ∧ Below w.heap.size w w'
end Go.Proofs.YtlncdmdffpaojaaGreatDoor

namespace Go.Proofs.YtlncdmdffpaojaaGreatDoor
open Go.RowKit

/-- How many entries stand ahead of a path. -/
def plc (l : List Ent) (p : List UInt8) : Nat := (l.filter fun a => lt8 (pl a) p).length
theorem plc_split {l : List Ent} (h : Asc l) (p : List UInt8) : l.take (plc l p) = l.filter (fun a => lt8 (pl a) p) ∧ l.drop (plc l p) = l.filter (fun a => !lt8 (pl a) p) := by
  induction l with
  | nil => exact ⟨rfl, rfl⟩
  | cons x r ih =>
    obtain ⟨h1, h2⟩ := List.pairwise_cons.1 h
    obtain ⟨i1, i2⟩ := ih h2
    unfold plc at i1 i2 ⊢
    cases hx : lt8 (pl x) p with
    | true =>
      rw [List.filter_cons_of_pos (by simpa using hx), List.filter_cons_of_neg (by simp [hx]), List.length_cons, List.take_succ_cons, List.drop_succ_cons, i1]
      exact ⟨rfl, i2⟩
    | false =>
      have h3 : ∀ y ∈ x :: r, lt8 (pl y) p = false := fun y hy => by
        rcases List.mem_cons.1 hy with rfl | hy
        · exact hx
        · cases h4 : lt8 (pl y) p with
          | false => rfl
          | true => have := lt8_trans (h1 y hy) h4; rw [hx] at this; cases this
      rw [List.filter_eq_nil_iff.2 fun y hy => by rw [h3 y hy]; simp, List.filter_eq_self.2 fun y hy => by rw [h3 y hy]; rfl]
      exact ⟨rfl, rfl⟩
theorem plc_le (l : List Ent) (p : List UInt8) : plc l p ≤ l.length := List.length_filter_le _ _
theorem plc_at {l : List Ent} (h : Asc l) (p : List UInt8) {i : Nat} (hi : i < l.length) : lt8 (pl l[i]) p = decide (i < plc l p) := by
  obtain ⟨h1, h2⟩ := plc_split h p
  by_cases hk : i < plc l p
  · rw [decide_eq_true hk]
    have : l[i] ∈ l.take (plc l p) := by
      rw [List.mem_take_iff_getElem]
      exact ⟨i, by omega, rfl⟩
    rw [h1] at this
    simpa using (List.mem_filter.1 this).2
  · rw [decide_eq_false hk]
    have : l[i] ∈ l.drop (plc l p) := by
      rw [List.mem_drop_iff_getElem]
      refine ⟨i - plc l p, by omega, ?_⟩
      congr 1
      omega
    rw [h2] at this
    simpa using (List.mem_filter.1 this).2
/-- What stands there. -/
theorem plc_fnd {l : List Ent} (h : Asc l) (p : List UInt8) : fnd l p = (l[plc l p]?).bind fun e => if pl e = p then some e else none := by
  obtain ⟨h1, h2⟩ := plc_split h p
  have hA : ∀ e ∈ l.take (plc l p), pl e ≠ p := fun e he => by
    rw [h1] at he
    exact lt8_ne (by simpa using (List.mem_filter.1 he).2)
  have hf : fnd l p = fnd (l.drop (plc l p)) p := by
    conv => lhs; rw [← List.take_append_drop (plc l p) l]
    unfold fnd
    rw [List.find?_append, List.find?_eq_none.2 fun e he => by simpa using hA e he]
    rfl
  have hd : Asc (l.drop (plc l p)) := List.Pairwise.sublist (List.drop_sublist _ _) h
  have hg : l[plc l p]? = (l.drop (plc l p))[0]? := by simp
  rw [hf, hg]
  have hB : ∀ e ∈ l.drop (plc l p), lt8 (pl e) p = false := fun e he => by
    rw [h2] at he
    simpa using (List.mem_filter.1 he).2
  cases hD : l.drop (plc l p) with
  | nil => rfl
  | cons x r =>
    rw [hD] at hd hB
    show fnd (x :: r) p = if pl x = p then some x else none
    split
    · rename_i hp
      unfold fnd
      rw [List.find?_cons_of_pos (by simpa using hp)]
    · rename_i hp
      rw [fnd_none]
      intro y hy
      rcases List.mem_cons.1 hy with rfl | hy
      · exact hp
      · intro e0
        have h3 := (List.pairwise_cons.1 hd).1 y hy
        rw [e0, hB x List.mem_cons_self] at h3
        cases h3
theorem plc_some {l : List Ent} (h : Asc l) {p : List UInt8} {e : Ent} (he : fnd l p = some e) : ∃ hk : plc l p < l.length, l[plc l p] = e ∧ pl e = p := by
  rw [plc_fnd h p] at he
  cases hg : l[plc l p]? with
  | none => rw [hg] at he; cases he
  | some x =>
    rw [hg, Option.bind_some] at he
    obtain ⟨hk, hx⟩ := List.getElem?_eq_some_iff.1 hg
    split at he
    · rename_i hp
      cases he
      exact ⟨hk, hx, hp⟩
    · cases he
theorem gt_drop {l : List Ent} (h : Asc l) (p : List UInt8) : l.filter (fun a => lt8 p (pl a)) = (l.drop (plc l p)).filter (fun a => lt8 p (pl a)) := by
  obtain ⟨h1, h2⟩ := plc_split h p
  conv => lhs; rw [← List.take_append_drop (plc l p) l]
  rw [List.filter_append, List.filter_eq_nil_iff.2, List.nil_append]
  intro e he
  rw [h1] at he
  have : lt8 (pl e) p = true := by simpa using (List.mem_filter.1 he).2
  rw [lt8_asymm this]
  simp
theorem wth_new {l : List Ent} (h : Asc l) {e : Ent} (hn : fnd l (pl e) = none) : wth l e = l.take (plc l (pl e)) ++ ([e] ++ l.drop (plc l (pl e))) := by
  obtain ⟨h1, h2⟩ := plc_split h (pl e)
  have h5 : (l.drop (plc l (pl e))).filter (fun a => lt8 (pl e) (pl a)) = l.drop (plc l (pl e)) := List.filter_eq_self.2 fun a ha => by
    have h3 : a ∈ l := List.mem_of_mem_drop ha
    rw [h2] at ha
    have h4 : lt8 (pl a) (pl e) = false := by simpa using (List.mem_filter.1 ha).2
    rcases lt8_tri (pl a) (pl e) with h | h | h
    · exact absurd h (fnd_none.1 hn a h3)
    · rw [h4] at h; cases h
    · exact h
  unfold wth
  rw [gt_drop h, h1, h5]
  rfl
theorem drop_plc {l : List Ent} (h : Asc l) {p : List UInt8} {x : Ent} (hn : fnd l p = some x) : l.drop (plc l p) = x :: l.drop (plc l p + 1) ∧ pl x = p ∧ ∀ y ∈ l.drop (plc l p + 1), lt8 p (pl y) = true := by
  obtain ⟨hk, hx, hp⟩ := plc_some h hn
  have hd : Asc (l.drop (plc l p)) := List.Pairwise.sublist (List.drop_sublist _ _) h
  have he := List.drop_eq_getElem_cons hk
  rw [hx] at he
  refine ⟨he, hp, fun y hy => ?_⟩
  unfold Asc at hd
  rw [he] at hd
  rw [← hp]
  exact (List.pairwise_cons.1 hd).1 y hy
theorem wth_old {l : List Ent} (h : Asc l) {e x : Ent} (hn : fnd l (pl e) = some x) : wth l e = l.take (plc l (pl e)) ++ ([e] ++ l.drop (plc l (pl e) + 1)) := by
  obtain ⟨h1, _⟩ := plc_split h (pl e)
  obtain ⟨h3, h4, h5⟩ := drop_plc h hn
  unfold wth
  rw [gt_drop h, h1, h3, List.filter_cons_of_neg (by rw [h4, lt8_irr]; simp), List.filter_eq_self.2 h5]
  rfl
theorem wout_old {l : List Ent} (h : Asc l) {p : List UInt8} {x : Ent} (hn : fnd l p = some x) : wout l p = l.take (plc l p) ++ l.drop (plc l p + 1) := by
  obtain ⟨h1, _⟩ := plc_split h p
  obtain ⟨h3, h4, h5⟩ := drop_plc h hn
  unfold wout
  conv => lhs; rw [← List.take_append_drop (plc l p) l]
  rw [List.filter_append, h3, List.filter_cons_of_neg (by simp [h4]), List.filter_eq_self.2, List.filter_eq_self.2]
  · intro a ha
    have := lt8_ne (h5 a ha)
    simpa using fun e0 => this e0.symm
  · intro a ha
    rw [h1] at ha
    have : lt8 (pl a) p = true := by simpa using (List.mem_filter.1 ha).2
    simpa using lt8_ne this
theorem Ents.take {w : World} {a : Option Addr} {cap : Nat} {l : List Ent} (h : Ents w a cap l) (n : Nat) : Ents w a cap (l.take n) := by
  obtain ⟨h1, h2⟩ := h
  refine ⟨by rw [List.length_take]; omega, ?_⟩
  rcases h2 with rfl | ⟨b, off, rfl, hlt, hc⟩
  · exact .inl (by simp)
  · refine .inr ⟨b, off, rfl, hlt, fun j x hx => hc j x ?_⟩
    rw [List.getElem?_take] at hx
    split at hx
    · exact hx
    · cases hx
/-- A list without its first n entries. -/
theorem Ents.drop {w : World} {b off cap : Nat} {l : List Ent} (h : Ents w (some ⟨b, off, none⟩) cap l) (n : Nat) (hn : n ≤ l.length) : Ents w (some ⟨b, off + n * 3, none⟩) (cap - n) (l.drop n) := by
  obtain ⟨h1, h2⟩ := h
  refine ⟨by rw [List.length_drop]; omega, ?_⟩
  rcases h2 with rfl | ⟨b', off', e0, hlt, hc⟩
  · exact .inl (by simp)
  · cases e0
    refine .inr ⟨b, off + n * 3, rfl, hlt, fun j x hx => ?_⟩
    rw [List.getElem?_drop] at hx
    have := hc (n + j) x hx
    rwa [show off + (n + j) * 3 = off + n * 3 + j * 3 by omega] at this
end Go.Proofs.YtlncdmdffpaojaaGreatDoor

namespace Go.Proofs.YtlncdmdffpaojaaGreatDoor
open Go.RowKit

set_option maxHeartbeats 1000000 in
set_option maxRecDepth 100000 in
theorem cmpS10 (a b : ByteArray) (w : World) : Calls Tryz.prog 58 #[.string a, .string b] w fun e w' => e = .returned (.int .i64 (Lib.compareBytes a.data.toList b.data.toList)) ∧ w = w' := by
  go_enter Tryz.func58, Tryz.ntmps58
  go_wp2
  rw [run_callFunc_extern Tryz.func92 (by kernel_rfl) (by kernel_rfl) (by kernel_rfl) (e := Extern.BytealgCompare.compare) (by kernel_rfl), Lib.run_compareString]
  simp only [Result.andThen]
  rw [Oper.upon_value]
  go_wp2
  go_ret
  exact ⟨rfl, rfl⟩
theorem cmp10 (a b : ByteArray) (w : World) : Calls Tryz.prog 32 #[.string a, .string b] w fun e w' => e = .returned (.int .i64 (Lib.compareBytes a.data.toList b.data.toList)) ∧ w = w' := by
  obtain ⟨r, hr⟩ : ∃ r, Lib.compareBytes a.data.toList b.data.toList = r := ⟨_, rfl⟩
  have HC := Lib.hid (cmpS10 a b w)
  rw [hr] at HC ⊢
  clear hr
  go_enter Tryz.func32, Tryz.ntmps32
  go_wp2_with fail
  refine HC.out.mono ?_
  rintro e w' ⟨rfl, rfl⟩
  go_wp2
  go_ret
  exact ⟨rfl, rfl⟩
theorem compare_lt : ∀ a b : List UInt8, decide (Lib.compareBytes a b < 0) = lt8 a b
  | [], [] => by decide
  | [], _ :: _ => by simp [Lib.compareBytes, lt8, Op.bytesLess]
  | _ :: _, [] => by simp [Lib.compareBytes, lt8, Op.bytesLess]
  | a :: xs, b :: ys => by
    rw [lt8_cons, Lib.compareBytes]
    by_cases h1 : a < b
    · simp [h1]
    · rw [if_neg h1]
      by_cases h2 : b < a
      · rw [if_pos h2]
        have : (a == b) = false := beq_eq_false_iff_ne.2 fun e => by rw [e] at h2; exact absurd h2 (UInt8.lt_irrefl _)
        simp [h1, this]
      · rw [if_neg h2, compare_lt xs ys]
        have : a = b := UInt8.le_antisymm (UInt8.not_lt.1 h2) (UInt8.not_lt.1 h1)
        simp [this]
theorem compare_zero : ∀ a b : List UInt8, decide (Lib.compareBytes a b = 0) = decide (a = b)
  | [], [] => by decide
  | [], _ :: _ => by simp [Lib.compareBytes]
  | _ :: _, [] => by simp [Lib.compareBytes]
  | a :: xs, b :: ys => by
    rw [Lib.compareBytes]
    by_cases h1 : a < b
    · rw [if_pos h1]
      have : a ≠ b := fun e => by rw [e] at h1; exact absurd h1 (UInt8.lt_irrefl _)
      simp [this]
    · rw [if_neg h1]
      by_cases h2 : b < a
      · rw [if_pos h2]
        have : a ≠ b := fun e => by rw [e] at h2; exact absurd h2 (UInt8.lt_irrefl _)
        simp [this]
      · rw [if_neg h2, compare_zero xs ys]
        have : a = b := UInt8.le_antisymm (UInt8.not_lt.1 h2) (UInt8.not_lt.1 h1)
        simp [this]
end Go.Proofs.YtlncdmdffpaojaaGreatDoor

namespace Go.Proofs.YtlncdmdffpaojaaGreatDoor
open Go.RowKit

/-- A Found in memory. -/
def FdAt (w : World) (b : Nat) (x : Ent × Nat) : Prop := w.heap[b]? = some (.cells #[.string x.1.1, .int .i64 x.1.2.1, .string x.1.2.2, .int .i64 (x.2 : Int)] 36 (0, 0))
/-- No Found. -/
abbrev noF : Ent × Nat := (noE, 0)
section
variable {w w' : World} {b : Nat} {x : Ent × Nat}
theorem FdAt.lt (h : FdAt w b x) : b < w.heap.size := (Array.getElem?_eq_some_iff.1 h).1
theorem FdAt.below (h : FdAt w b x) (hb : Below w.heap.size w w') : FdAt w' b x := (hb.block b h.lt).trans h
theorem FdAt.c0 (h : FdAt w b x) : w.cell? ⟨b, 0, none⟩ = some (.string x.1.1) := (cell_of8 h rfl).1
theorem FdAt.c1 (h : FdAt w b x) : w.cell? ⟨b, 1, none⟩ = some (.int .i64 x.1.2.1) := (cell_of8 h rfl).1
theorem FdAt.c2 (h : FdAt w b x) : w.cell? ⟨b, 2, none⟩ = some (.string x.1.2.2) := (cell_of8 h rfl).1
theorem FdAt.c3 (h : FdAt w b x) : w.cell? ⟨b, 3, none⟩ = some (.int .i64 (x.2 : Int)) := (cell_of8 h rfl).1
theorem FdAt.f0 (h : FdAt w b x) : w.frozen? ⟨b, 0, none⟩ = false := (cell_of8 h (j := 0) rfl).2
theorem FdAt.f1 (h : FdAt w b x) : w.frozen? ⟨b, 1, none⟩ = false := (cell_of8 h (j := 1) rfl).2
theorem FdAt.f2 (h : FdAt w b x) : w.frozen? ⟨b, 2, none⟩ = false := (cell_of8 h (j := 2) rfl).2
theorem FdAt.f3 (h : FdAt w b x) : w.frozen? ⟨b, 3, none⟩ = false := (cell_of8 h (j := 3) rfl).2
/-- What a store of a whole Found leaves. -/
abbrev fdSet (w : World) (b : Nat) (x : Ent × Nat) : World := (((w.setCell ⟨b, 0, none⟩ (.string x.1.1)).setCell ⟨b, 1, none⟩ (.int .i64 x.1.2.1)).setCell ⟨b, 2, none⟩ (.string x.1.2.2)).setCell ⟨b, 3, none⟩ (.int .i64 (x.2 : Int))
theorem FdAt.set (h : FdAt w b x) (y : Ent × Nat) : FdAt (fdSet w b y) b y := by
  have h1 := set_of8 h 0 (.string y.1.1)
  have h2 := set_of8 h1 1 (.int .i64 y.1.2.1)
  have h3 := set_of8 h2 2 (.string y.1.2.2)
  have h4 := set_of8 h3 3 (.int .i64 (y.2 : Int))
  exact h4
theorem below_fd {B : Nat} {a : World} (h : Below B a w) (hb : B ≤ b) (y : Ent × Nat) : Below B a (fdSet w b y) := (((h.setCell (p := ⟨b, 0, none⟩) hb _).setCell (p := ⟨b, 1, none⟩) hb _).setCell (p := ⟨b, 2, none⟩) hb _).setCell (p := ⟨b, 3, none⟩) hb _
/-- A variable of a call's own, a Found stored in it. -/
theorem fd_box (w : World) (y : Ent × Nat) : ∃ V U M, w.alloc (.cells #[.string ⟨#[]⟩, .int .i64 0, .string ⟨#[]⟩, .int .i64 0] 36) = V ∧ w.heap.size = M ∧ fdSet V M y = U ∧ FdAt V M noF ∧ FdAt U M y ∧ Below w.heap.size w U := by
  refine ⟨_, _, _, rfl, rfl, rfl, ?_⟩
  have h0 : FdAt (w.alloc (.cells #[.string ⟨#[]⟩, .int .i64 0, .string ⟨#[]⟩, .int .i64 0] 36)) w.heap.size noF := heap_alloc_new _ _
  exact ⟨h0, h0.set y, below_fd ((Below.refl _ _).alloc (Nat.le_refl _) _) (Nat.le_refl _) y⟩
end
end Go.Proofs.YtlncdmdffpaojaaGreatDoor

namespace Go.Proofs.YtlncdmdffpaojaaGreatDoor
open Go.RowKit

set_option maxRecDepth 10000 in
set_option maxHeartbeats 1000000 in
theorem clo12 (x : Ent) (p : ByteArray) (W : World) : Calls Tryz.prog 104 #[enV x, .string p] W fun e w' => e = .returned (.int .i64 (Lib.compareBytes (pl x) p.data.toList)) ∧ Below W.heap.size W w' := by
  have HC := Lib.hid (fun W' => cmp10 x.1 p W')
  obtain ⟨r, hr⟩ : ∃ r, Lib.compareBytes (pl x) p.data.toList = r := ⟨_, rfl⟩
  unfold pl at hr
  rw [hr] at HC
  rw [show Lib.compareBytes (pl x) p.data.toList = r from hr]
  clear hr
  go_enter Tryz.func104, Tryz.ntmps104
  go_wp2_with fail
  refine (HC.out _).mono ?_
  rintro e w' ⟨rfl, rfl⟩
  go_wp2
  go_ret
  exact ⟨rfl, (Below.refl _ _).alloc (Nat.le_refl _) _⟩
set_option maxRecDepth 10000 in
set_option maxHeartbeats 2000000 in
theorem search12 (l : List Ent) (a : Option Addr) (cap : Nat) (p : ByteArray) (w : World) (h : Ents w a cap l) (hA : Asc l) (hl : l.length ≤ 1000) :
    Calls Tryz.prog 103 #[.slice a l.length cap, .string p, .func (.func 104) #[] #[]] w fun e w' => e = .returned (.tuple #[.int .i64 (plc l p.data.toList : Nat), .bool (fnd l p.data.toList).isSome]) ∧ Below w.heap.size w w' := by
  obtain ⟨K, hK⟩ : ∃ K, plc l p.data.toList = K := ⟨_, rfl⟩
  have HK := Lib.hid (show K ≤ l.length by rw [← hK]; exact plc_le _ _)
  have HAT := Lib.hid (fun i (hi : i < l.length) => plc_at hA p.data.toList hi)
  have HFN := Lib.hid (plc_fnd hA p.data.toList)
  have HE := Lib.hid h
  rw [hK] at HFN ⊢
  have HKK := Lib.hid hK
  obtain ⟨R, hR⟩ : ∃ R, (fnd l p.data.toList).isSome = R := ⟨_, rfl⟩
  rw [hR]
  have HR := Lib.hid hR
  clear h hA hK hR
  go_enter Tryz.func103, Tryz.ntmps103
  go_wp2
  go_loopg [9, 10] l.length (fun g s5 s6 wr => ∃ (lo hi : Nat), s5 = .int .i64 (lo : Int) ∧ s6 = .int .i64 (hi : Int) ∧ lo ≤ hi ∧ hi ≤ l.length ∧ hi - lo ≤ g ∧ Hid (lo ≤ K ∧ K ≤ hi) ∧ Hid (Below w.heap.size w wr))
  case atStart => exact ⟨0, l.length, rfl, rfl, Nat.zero_le _, Nat.le_refl _, by omega, ⟨by omega, HK.out⟩, Below.refl _ _⟩
  case round =>
    obtain ⟨lo, hi, rfl, rfl, hlh, hin, hg, HI, HB⟩ := hrel
    by_cases hlt : lo < hi
    · have hmid : (lo + hi) / 2 < l.length := by omega
      obtain ⟨b, off, rfl, hb, hc⟩ := Ents.at HE.out HB.out hmid
      have HA2 := Lib.hid (HAT.out _ hmid)
      obtain ⟨x, hx⟩ : ∃ x, l[(lo + hi) / 2] = x := ⟨_, rfl⟩
      rw [hx] at hc HA2
      have c0 := hc.c0
      have c1 := hc.c1
      have c2 := hc.c2
      have HC := Lib.hid (clo12 x p wr)
      obtain ⟨r, hr⟩ : ∃ r, Lib.compareBytes (pl x) p.data.toList = r := ⟨_, rfl⟩
      have HLT := Lib.hid (compare_lt (pl x) p.data.toList)
      rw [HA2.out, HKK.out, hr] at HLT
      rw [hr] at HC
      clear hc hx hb hr
      by_cases hp : r < 0
      · have HP := Lib.hid (show (lo + hi) / 2 < K by have := HLT.out; simpa [hp] using this)
        go_wp2_with fail
        refine (HC.out).mono ?_
        rintro e w1 ⟨rfl, hb⟩
        have HB1 := Lib.hid (HB.out.trans (hb.mono HB.out.size))
        clear hb
        go_wp2
        go_roundg (hi - ((lo + hi) / 2 + 1))
        case measure => omega
        case rel => exact ⟨(lo + hi) / 2 + 1, hi, by rw [show ((lo : Int) + (hi : Int)) / 2 + 1 = (((lo + hi) / 2 + 1 : Nat) : Int) by omega], rfl, by omega, hin, Nat.le_refl _, ⟨by have := HP.out; omega, HI.out.2⟩, HB1.out⟩
      · have HP := Lib.hid (show K ≤ (lo + hi) / 2 by have := HLT.out; simpa [hp] using this)
        go_wp2_with fail
        refine (HC.out).mono ?_
        rintro e w1 ⟨rfl, hb⟩
        have HB1 := Lib.hid (HB.out.trans (hb.mono HB.out.size))
        clear hb
        go_wp2
        go_roundg ((lo + hi) / 2 - lo)
        case measure => omega
        case rel => exact ⟨lo, (lo + hi) / 2, rfl, by rw [show ((lo : Int) + (hi : Int)) / 2 = (((lo + hi) / 2 : Nat) : Int) by omega], by omega, by omega, Nat.le_refl _, ⟨HI.out.1, HP.out⟩, HB1.out⟩
    · obtain rfl : lo = K := by have := HI.out; omega
      obtain rfl : hi = lo := by omega
      by_cases hend : hi < l.length
      · have hend' : (hi : Int) < (l.length : Int) := by omega
        obtain ⟨b, off, rfl, hb, hc⟩ := Ents.at HE.out HB.out hend
        have hf := HFN.out
        rw [List.getElem?_eq_getElem hend, Option.bind_some] at hf
        obtain ⟨x, hx⟩ : ∃ x, l[hi] = x := ⟨_, rfl⟩
        rw [hx] at hc hf
        have c0 := hc.c0
        have c1 := hc.c1
        have c2 := hc.c2
        have HC := Lib.hid (clo12 x p wr)
        obtain ⟨r, hr⟩ : ∃ r, Lib.compareBytes (pl x) p.data.toList = r := ⟨_, rfl⟩
        have hz := compare_zero (pl x) p.data.toList
        rw [hr] at hz HC
        have HV := Lib.hid (show (r == 0) = R by
          rw [← HR.out, hf, show (r == 0) = decide (r = 0) from rfl, hz]
          by_cases hp : pl x = p.data.toList
          · rw [if_pos hp, decide_eq_true hp]; rfl
          · rw [if_neg hp, decide_eq_false hp]; rfl)
        clear hc hx hb hr hf hz HFN
        go_wp2_with fail
        refine (HC.out).mono ?_
        rintro e w1 ⟨rfl, hb⟩
        have HB1 := Lib.hid (HB.out.trans (hb.mono HB.out.size))
        clear hb
        go_wp2
        go_ret2
        exact ⟨by rw [← HV.out]; rfl, HB1.out⟩
      · have hend' : ¬ (hi : Int) < (l.length : Int) := by omega
        have hf := HFN.out
        rw [List.getElem?_eq_none (by omega), Option.bind_none] at hf
        have HV := Lib.hid (show R = false by rw [← HR.out, hf]; rfl)
        clear hf HFN
        go_wp2
        go_ret2
        exact ⟨by rw [HV.out]; rfl, HB.out⟩
set_option maxRecDepth 10000 in
set_option maxHeartbeats 1000000 in
theorem entryAt12 (l : List Ent) (a : Option Addr) (cap : Nat) (p : ByteArray) (w : World) (h : Ents w a cap l) (hA : Asc l) (hl : l.length ≤ 1000) :
    Calls Tryz.prog 75 #[.slice a l.length cap, .string p] w fun e w' => e = .returned (.tuple #[enV ((fnd l p.data.toList).getD noE), .bool (fnd l p.data.toList).isSome]) ∧ Below w.heap.size w w' := by
  obtain ⟨V, hV⟩ : ∃ V, w.alloc (.cells #[.string ⟨#[]⟩, .int .i64 0, .string ⟨#[]⟩] 34) = V := ⟨_, rfl⟩
  obtain ⟨O, hO⟩ : ∃ O, w.heap.size = O := ⟨_, rfl⟩
  have hb1 : Below w.heap.size w V := by rw [← hV]; exact (Below.refl _ _).alloc (Nat.le_refl _) _
  have HR := Lib.hid (show EnAt V O ⟨#[]⟩ 0 ⟨#[]⟩ by rw [← hV, ← hO]; exact enAt_new _ _ _ _)
  have HOW := Lib.hid (show w.heap.size ≤ O by omega)
  have HB := Lib.hid hb1
  have HE := Lib.hid (RowN.below h hb1)
  have HC := Lib.hid (search12 l a cap p V HE.out hA hl)
  have hmf : ∀ (fn : Fn) (first cap : Array Value) (w : World), (Instr.makeFunc fn first cap).run Tryz.prog w = .ok (.func fn first cap) w := fun _ _ _ _ => rfl
  have HPS := Lib.hid (fun x (hx : fnd l p.data.toList = some x) => plc_some hA hx)
  obtain ⟨K, hK⟩ : ∃ K, plc l p.data.toList = K := ⟨_, rfl⟩
  rw [hK] at HC
  cases hf : fnd l p.data.toList with
  | none =>
    rw [hf] at HC
    rw [show (none : Option Ent).isSome = false from rfl] at HC ⊢
    clear h hA hl hK hf HPS hb1
    go_enter Tryz.func75, Tryz.ntmps75
    go_wp2_with fail
    refine (HC.out).mono ?_
    rintro e w1 ⟨rfl, hb⟩
    have HB1 := Lib.hid (HB.out.trans (hb.mono HB.out.size))
    have HR1 := Lib.hid (HR.out.below hb)
    have r0 := HR1.out.c0
    have r1 := HR1.out.c1
    have r2 := HR1.out.c2
    have f0 := HR1.out.f0
    have f1 := HR1.out.f1
    have f2 := HR1.out.f2
    clear hb
    go_wp2
    have hld := lv_en (HR1.out.set ⟨#[]⟩ 0 ⟨#[]⟩)
    refine bodyPost_ret (v := .tuple #[entV ⟨#[]⟩ 0 ⟨#[]⟩, .bool false]) ?_ rfl ⟨rfl, below_en3 HB1.out HOW.out _ _ _⟩
    rw [results_cell_tmp rfl]
    simp [asAddr, Result.andThen, hld]
  | some x =>
    obtain ⟨hk, hx, _⟩ := HPS.out x hf
    rw [hf] at HC
    rw [show (some x).isSome = true from rfl] at HC ⊢
    rw [show (some x).getD noE = x from rfl]
    simp only [hK] at hk hx
    have hk' : (K : Int) < (l.length : Int) := by omega
    clear h hA hl hf HPS hb1
    go_enter Tryz.func75, Tryz.ntmps75
    go_wp2_with fail
    refine (HC.out).mono ?_
    rintro e w1 ⟨rfl, hb⟩
    have HB1 := Lib.hid (HB.out.trans (hb.mono HB.out.size))
    have HR1 := Lib.hid (HR.out.below hb)
    obtain ⟨b, off, rfl, _, hc⟩ := Ents.at HE.out hb hk
    rw [hx] at hc
    have c0 := hc.c0
    have c1 := hc.c1
    have c2 := hc.c2
    have r0 := HR1.out.c0
    have r1 := HR1.out.c1
    have r2 := HR1.out.c2
    have f0 := HR1.out.f0
    have f1 := HR1.out.f1
    have f2 := HR1.out.f2
    clear hb hc hx
    go_wp2
    have hld := lv_en (HR1.out.set x.1 x.2.1 x.2.2)
    refine bodyPost_ret (v := .tuple #[enV x, .bool true]) ?_ rfl ⟨rfl, below_en3 HB1.out HOW.out _ _ _⟩
    rw [results_cell_tmp rfl]
    simp [asAddr, Result.andThen, hld]
end Go.Proofs.YtlncdmdffpaojaaGreatDoor

namespace Go.Proofs.YtlncdmdffpaojaaGreatDoor
open Go.RowKit

/-- What asked has in hand: nothing, or the directory, met in a layer. -/
def had12 (p : List UInt8) (m : Option Nat) : Ent × Nat := match m with
  | none => (noE, 0)
  | some i => (dP p, i)
/-- What is answered. -/
def got12 (o : Option (Ent × Nat)) : Ent × Nat := o.getD (noE, 0)
section
variable {S : List (List Ent)} {p : List UInt8} {f n : Nat} {m : Option Nat} {e : Ent}
theorem ask_end (h : n ≤ f) : got12 (ask12 S p f n m) = had12 p m := by
  cases n with
  | zero => cases m <;> rfl
  | succ n =>
    rw [ask12, if_pos (by omega)]
    cases m <;> rfl
theorem ask_next (h : f ≤ n) (hl : fnd (layN S n) p = none) : ask12 S p f (n + 1) m = ask12 S p f n m := by
  rw [ask12, if_neg (by omega), hl]
theorem ask_dir (h : f ≤ n) (hl : fnd (layN S n) p = some e) (hk : e.2.1 = 2) : ask12 S p f (n + 1) m = ask12 S p f n (some n) := by
  rw [ask12, if_neg (by omega), hl]
  simp only [if_pos hk]
theorem ask_opq (h : f ≤ n) (hl : fnd (layN S n) p = some e) (hk : e.2.1 = 4) : got12 (ask12 S p f (n + 1) m) = (dP p, n) := by
  have k2 : ¬ e.2.1 = 2 := by omega
  rw [ask12, if_neg (by omega), hl]
  simp only [if_neg k2, if_pos hk]
  rfl
theorem ask_file (h : f ≤ n) (hl : fnd (layN S n) p = some e) (hk : e.2.1 = 1) : got12 (ask12 S p f (n + 1) m) = match m with
    | none => (e, n)
    | some i => (dP p, i) := by
  have k2 : ¬ e.2.1 = 2 := by omega
  have k4 : ¬ e.2.1 = 4 := by omega
  rw [ask12, if_neg (by omega), hl]
  simp only [if_neg k2, if_neg k4, if_pos hk]
  cases m <;> rfl
theorem ask_white (h : f ≤ n) (hl : fnd (layN S n) p = some e) (hk : e.2.1 = 3) : got12 (ask12 S p f (n + 1) m) = had12 p m := by
  have k1 : ¬ e.2.1 = 1 := by omega
  have k2 : ¬ e.2.1 = 2 := by omega
  have k4 : ¬ e.2.1 = 4 := by omega
  rw [ask12, if_neg (by omega), hl]
  simp only [if_neg k1, if_neg k2, if_neg k4]
  cases m <;> rfl
theorem up_kind : ∀ n {e : Ent} {j : Nat}, up12 S p f n = some (e, j) → e.2.1 ≠ 0 := by
  intro n e j h
  obtain ⟨_, _, h3, _⟩ := up_from n h
  rcases h3 with ⟨h3, _⟩ | ⟨rfl, _⟩
  · omega
  · rw [dP_kind]; decide
/-- An entry of a right layer that is no file's, as a directory. -/
theorem ent_dir {l : List Ent} (h : RightL l) (hl : fnd l p = some e) (hk : e.2.1 ≠ 1) : ((e.1, 2, e.2.2) : Ent) = dP p := by
  obtain ⟨h1, h2⟩ := (fnd_some h.2.2.1).1 hl
  obtain ⟨_, _, _, _, h5⟩ := rightE_parts (h.2.1 e h1)
  have hd : e.2.2 = ⟨#[]⟩ := ba_ext (List.length_eq_zero_iff.1 (by rw [← Lib.size_eq]; exact h5.resolve_left hk))
  rw [hd, path_eq h2]
  rfl
end
/-- Where an error came, there it stays. -/
theorem pre_err {S : List (List Ent)} {p : List UInt8} (hp : isP p) {n : Int} (hn : n ≠ 0) : ∀ d i, i + d = (pcs p).length → atS S (pre12 p i) = (n, noE, 0) → atS S p = (n, noE, 0)
  | 0, i, h, e => by
    obtain rfl : i = (pcs p).length := by omega
    rwa [pre_full hp] at e
  | d + 1, i, h, e => by
    have hi : i < (pcs p).length := by omega
    obtain ⟨h1, h2⟩ := pre_par hp hi
    refine pre_err hp hn d (i + 1) (by omega) ?_
    rw [atS_step S (pre_isP hp _).1 h2, h1, if_pos (by rw [e]; exact hn), e]
theorem pre_zero (p : List UInt8) : pre12 p 0 = [47] := by
  unfold pre12
  rw [List.take_zero]
  rfl
section
variable {S : List (List Ent)} {p : List UInt8} {i : Nat}
theorem pre_file (hp : isP p) (hi : i < (pcs p).length) (h0 : (atS S (pre12 p i)).1 = 0) (hk : (atS S (pre12 p i)).2.1.2.1 ≠ 2) : atS S p = (6, noE, 0) := by
  obtain ⟨h1, h2⟩ := pre_par hp hi
  refine pre_err hp (by decide) ((pcs p).length - (i + 1)) (i + 1) (by omega) ?_
  rw [atS_step S (pre_isP hp _).1 h2, h1, if_neg (not_not_intro h0), if_pos hk]
theorem pre_none (hp : isP p) (hi : i < (pcs p).length) (h0 : (atS S (pre12 p i)).1 = 0) (hk : (atS S (pre12 p i)).2.1.2.1 = 2) (hu : (got12 (up12 S (pre12 p (i + 1)) (atS S (pre12 p i)).2.2 S.length)).1.2.1 = 0) : atS S p = (3, noE, 0) := by
  obtain ⟨h1, h2⟩ := pre_par hp hi
  refine pre_err hp (by decide) ((pcs p).length - (i + 1)) (i + 1) (by omega) ?_
  rw [atS_step S (pre_isP hp _).1 h2, h1, if_neg (not_not_intro h0), if_neg (not_not_intro hk)]
  cases hu' : up12 S (pre12 p (i + 1)) (atS S (pre12 p i)).2.2 S.length with
  | none => rfl
  | some z =>
    rw [hu'] at hu
    exact absurd hu (up_kind _ hu')
theorem pre_some (hp : isP p) (hi : i < (pcs p).length) (h0 : (atS S (pre12 p i)).1 = 0) (hk : (atS S (pre12 p i)).2.1.2.1 = 2) (hu : (got12 (up12 S (pre12 p (i + 1)) (atS S (pre12 p i)).2.2 S.length)).1.2.1 ≠ 0) : atS S (pre12 p (i + 1)) = (0, got12 (up12 S (pre12 p (i + 1)) (atS S (pre12 p i)).2.2 S.length)) := by
  obtain ⟨h1, h2⟩ := pre_par hp hi
  rw [atS_step S (pre_isP hp _).1 h2, h1, if_neg (not_not_intro h0), if_neg (not_not_intro hk)]
  cases hu' : up12 S (pre12 p (i + 1)) (atS S (pre12 p i)).2.2 S.length with
  | none =>
    rw [hu'] at hu
    exact absurd rfl hu
  | some z => rfl
theorem pre_jn (hi : i < (pcs p).length) : pre12 p (i + 1) = jn ((pcs p).take (i + 1)) := by
  unfold pre12 pth
  rw [if_neg (by intro h; have h2 := congrArg List.length h; rw [List.length_take, List.length_nil] at h2; omega)]
theorem pre_succ (hi : i < (pcs p).length) : pre12 p (i + 1) = jn ((pcs p).take i) ++ 47 :: (pcs p)[i] := by
  unfold pre12 pth
  rw [if_neg (by intro h; have h2 := congrArg List.length h; rw [List.length_take, List.length_nil] at h2; omega), List.take_succ_eq_append_getElem hi, jn_append]
  simp [jn]
end
end Go.Proofs.YtlncdmdffpaojaaGreatDoor

namespace Go.Proofs.YtlncdmdffpaojaaGreatDoor
open Go.RowKit

theorem results_cell12 {fn : Func} {p : Tmp} {ty : TypeId} (h : fn.results = #[.cell p ty]) (tmps : Array Value) (P : Program) (w : World) :
    (results fn tmps).run P w = ((asAddr (tmps.getD p undef)).run P w).andThen fun a w₁ => (loadVar ty a).run P w₁ := by
  simp only [results, h]
  simp [Sem.run_bind, Result.andThen]
theorem fdSz12 : (Tryz.prog.info? 36).map (·.size) = some 4 := by kernel_rfl
section
variable {w w' : World} {b b' : Nat} {x z : Ent × Nat}
theorem FdAt.range (h : FdAt w b x) : w.rangeAt b 0 [.string x.1.1, .int .i64 x.1.2.1, .string x.1.2.2, .int .i64 (x.2 : Int)] := fun j v hv => by
  rw [Nat.zero_add]
  exact (cell_of8 h (by simpa using hv)).1
theorem lv_fd (h : FdAt w b x) : (loadVar 36 ⟨b, 0, none⟩).run Tryz.prog w = .ok (fdnV x) w :=
  run_loadVar_mid w b 0 36 _ _ h.range Tryz.underlying36 rfl (by rw [fdSz12]; rfl)
theorem set_ne12 (w : World) {a c : Nat} (h : a ≠ c) (j : Nat) (v : Value) : (w.setCell ⟨a, j, none⟩ v).heap[c]? = w.heap[c]? := by
  simp [World.setCell, Array.getElem?_modify, h]
theorem FdAt.other (h : FdAt w b x) (hn : b' ≠ b) (y : Ent × Nat) : FdAt (fdSet w b' y) b x := by
  unfold FdAt fdSet
  rw [set_ne12 _ hn, set_ne12 _ hn, set_ne12 _ hn, set_ne12 _ hn]
  exact h
theorem FdAt.cell (h : FdAt w b x) (hn : b' ≠ b) (j : Nat) (v : Value) : FdAt (w.setCell ⟨b', j, none⟩ v) b x := (set_ne12 _ hn _ _).trans h
/-- A Found stored in one variable, another one left alone. -/
theorem fd_put (hb : FdAt w b x) (hz : FdAt w b' z) (hn : b ≠ b') (y : Ent × Nat) {B : Nat} {a : World} (hB : Below B a w) (hl : B ≤ b) : ∃ X, fdSet w b y = X ∧ FdAt X b y ∧ FdAt X b' z ∧ Below B a X :=
  ⟨_, rfl, hb.set y, hz.other hn y, below_fd hB hl y⟩
end
/-- Two variables of a call's own. -/
theorem fd_two (w : World) : ∃ V U M N, w.alloc (.cells #[.string ⟨#[]⟩, .int .i64 0, .string ⟨#[]⟩, .int .i64 0] 36) = V ∧ w.heap.size = M ∧ V.alloc (.cells #[.string ⟨#[]⟩, .int .i64 0, .string ⟨#[]⟩, .int .i64 0] 36) = U ∧ V.heap.size = N ∧ FdAt U M noF ∧ FdAt U N noF ∧ N ≠ M ∧ w.heap.size ≤ M ∧ w.heap.size ≤ N ∧ Below w.heap.size w U := by
  have h0 : FdAt (w.alloc (.cells #[.string ⟨#[]⟩, .int .i64 0, .string ⟨#[]⟩, .int .i64 0] 36)) w.heap.size noF := heap_alloc_new _ _
  have hb1 : Below w.heap.size w (w.alloc (.cells #[.string ⟨#[]⟩, .int .i64 0, .string ⟨#[]⟩, .int .i64 0] 36)) := (Below.refl _ _).alloc (Nat.le_refl _) _
  refine ⟨_, _, _, _, rfl, rfl, rfl, rfl, h0.below ((Below.refl _ _).alloc (Nat.le_refl _) _), heap_alloc_new _ _, ?_, Nat.le_refl _, hb1.size, hb1.alloc hb1.size _⟩
  have := h0.lt
  omega
theorem en_box3 (w : World) (q : ByteArray) (k : Int) (d : ByteArray) : ∃ V U M, w.alloc (.cells #[.string ⟨#[]⟩, .int .i64 0, .string ⟨#[]⟩] 34) = V ∧ w.heap.size = M ∧ enSet V M q k d = U ∧ EnAt V M ⟨#[]⟩ 0 ⟨#[]⟩ ∧ EnAt U M q k d ∧ Below w.heap.size w U :=
  ⟨_, _, _, rfl, rfl, rfl, enAt_new _ _ _ _, (enAt_new _ _ _ _).set _ _ _, below_en3 ((Below.refl _ _).alloc (Nat.le_refl _) _) (Nat.le_refl _) _ _ _⟩
theorem layN_get12 {S : List (List Ent)} {n : Nat} (h : n < S.length) : layN S n = S[n] := by
  unfold layN
  rw [List.getD_eq_getElem?_getD, List.getElem?_eq_getElem h]
  rfl
set_option maxRecDepth 10000 in
set_option maxHeartbeats 8000000 in
theorem asked12 (S : List (List Ent)) (a : Option Addr) (cap : Nat) (p : ByteArray) (f : Nat) (w : World) (h : Stk w a cap S) (hS : LkOK S) :
    Calls Tryz.prog 52 #[.slice a S.length cap, .string p, .int .i64 (f : Int)] w fun e w' => e = .returned (fdnV (got12 (up12 S p.data.toList f S.length))) ∧ Below w.heap.size w w' := by
  obtain ⟨R, hR⟩ : ∃ R, got12 (up12 S p.data.toList f S.length) = R := ⟨_, rfl⟩
  rw [hR]
  have HR := Lib.hid (show got12 (ask12 S p.data.toList f S.length none) = R by rw [(ask_up S _ f _).1]; exact hR)
  have HE := Lib.hid h
  have HS := Lib.hid hS
  have hL9 := hS.1
  have hwl : IntKind.i64.wrap ((S.length : Int) - 1) = (S.length : Int) - 1 := IntWalk.i64_in _ (by omega)
  obtain ⟨W0, W1, M6, M7, hW0, hM6, hW1, hM7, h6, h7, hmm, hl6, hl7, hb1⟩ := fd_two w
  have H6 := Lib.hid h6
  have H7 := Lib.hid h7
  have HMM := Lib.hid hmm
  have HM6 := Lib.hid hl6
  have HM7 := Lib.hid hl7
  have HB := Lib.hid hb1
  have HL9 := Lib.hid hL9
  clear h hS hR h6 h7 hmm hl6 hl7 hb1 hL9
  go_enter Tryz.func52, Tryz.ntmps52
  go_wp2
  go_step3
  go_wp2
  go_step3
  go_wp2
  go_loopg [8] S.length (fun g s wx => ∃ (z : Int) (m : Option Nat), s = .int .i64 z ∧ z + 1 = (g : Int) ∧ g ≤ S.length ∧ Hid (got12 (ask12 S p.data.toList f g m) = R) ∧ Hid (FdAt wx M7 (had12 p.data.toList m)) ∧ Hid (FdAt wx M6 noF) ∧ Hid (Below w.heap.size w wx))
  case atStart => exact ⟨(S.length : Int) - 1, none, rfl, by omega, Nat.le_refl _, HR.out, H7.out, H6.out, HB.out⟩
  case round =>
    clear hW0 hM6 hW1 hM7 hwl H6 H7 HB HR
    obtain ⟨z, m, rfl, hz, hg, HK, H7, H6, HB⟩ := hrel
    by_cases hlt : (f : Int) ≤ z
    · obtain ⟨n, rfl⟩ : ∃ n : Nat, z = (n : Int) := ⟨z.toNat, by omega⟩
      obtain rfl : gk = n + 1 := by omega
      have hfn : f ≤ n := by omega
      have HFN := Lib.hid hfn
      have hnS : n < S.length := by omega
      have hlt' : (n : Int) < (S.length : Int) := by omega
      have hw : IntKind.i64.wrap ((n : Int) - 1) = (n : Int) - 1 := IntWalk.i64_in _ (by have := HL9.out; omega)
      obtain ⟨b, off, a', cap', rfl, hc, hE⟩ := HE.out.at HB.out hnS
      have HRT := Lib.hid (HS.out.2 _ (List.getElem_mem hnS))
      have HC := Lib.hid (entryAt12 S[n] a' cap' p wr hE HRT.out.2.2.1 (by have := HRT.out.1; omega))
      have HLN := Lib.hid (layN_get12 hnS)
      obtain ⟨l, hl⟩ : ∃ l, S[n] = l := ⟨_, rfl⟩
      rw [hl] at hc HRT HC HLN
      clear hl hE hfn
      cases hf : fnd l p.data.toList with
      | none =>
        have HK1 := Lib.hid (show got12 (ask12 S p.data.toList f n m) = R by rw [← HK.out, ask_next HFN.out (by rw [HLN.out]; exact hf)])
        rw [hf] at HC
        obtain ⟨y, hy⟩ : ∃ y, (none : Option Ent).getD noE = y := ⟨_, rfl⟩
        rw [hy, show (none : Option Ent).isSome = false from rfl] at HC
        clear hf hy hz hg
        go_wp2_with fail
        refine (HC.out).mono ?_
        rintro e w1 ⟨rfl, hb⟩
        have HB1 := Lib.hid (HB.out.trans (hb.mono HB.out.size))
        have H71 := Lib.hid (H7.out.below hb)
        have H61 := Lib.hid (H6.out.below hb)
        clear hb
        obtain ⟨V, U, M, hV, hM, hU, hv, hu, hb2⟩ := en_box3 w1 y.1 y.2.1 y.2.2
        have v0 := hv.c0
        have v1 := hv.c1
        have v2 := hv.c2
        have vf0 := hv.f0
        have vf1 := hv.f1
        have vf2 := hv.f2
        have HX := Lib.hid hu
        have HBU := Lib.hid (HB1.out.trans (hb2.mono HB1.out.size))
        have H7U := Lib.hid (H71.out.below hb2)
        have H6U := Lib.hid (H61.out.below hb2)
        have HMU := Lib.hid (show M ≠ M7 by have := H71.out.lt; omega)
        clear hv hu hb2
        go_wp2
        go_roundg n
        case measure => omega
        case rel => exact ⟨(n : Int) - 1, m, rfl, by omega, by omega, HK1.out, H7U.out, H6U.out, HBU.out⟩
      | some x =>
        have HKD := Lib.hid (kind_of (HRT.out.2.1 x ((fnd_some HRT.out.2.2.1).1 hf).1))
        have HF := Lib.hid (show fnd (layN S n) p.data.toList = some x by rw [HLN.out]; exact hf)
        have HED := Lib.hid (fun h => ent_dir HRT.out hf h)
        rw [hf] at HC
        rw [show (some x).getD noE = x from rfl, show (some x).isSome = true from rfl] at HC
        obtain ⟨q, kd, d⟩ := x
        clear hf hz hg
        rcases (show kd = 2 ∨ kd = 4 ∨ kd = 1 ∨ kd = 3 by have := HKD.out; simp only at this; omega) with rfl | rfl | rfl | rfl
        · have HY := Lib.hid (show ((((q, 2, d) : Ent), n) : Ent × Nat) = had12 p.data.toList (some n) from congrArg (fun e => (e, n)) (HED.out (show (2 : Int) ≠ 1 by decide)))
          have HK1 := Lib.hid (show got12 (ask12 S p.data.toList f n (some n)) = R by rw [← HK.out, ask_dir HFN.out HF.out rfl])
          go_wp2_with fail
          refine (HC.out).mono ?_
          rintro e w1 ⟨rfl, hb⟩
          have HB1 := Lib.hid (HB.out.trans (hb.mono HB.out.size))
          have H71 := Lib.hid (H7.out.below hb)
          have H61 := Lib.hid (H6.out.below hb)
          clear hb
          obtain ⟨V, U, M, hV, hM, hU, hv, hu, hb2⟩ := en_box3 w1 q 2 d
          have v0 := hv.c0
          have v1 := hv.c1
          have v2 := hv.c2
          have vf0 := hv.f0
          have vf1 := hv.f1
          have vf2 := hv.f2
          have HX := Lib.hid hu
          have HBU := Lib.hid (HB1.out.trans (hb2.mono HB1.out.size))
          have H7U := Lib.hid (H71.out.below hb2)
          have H6U := Lib.hid (H61.out.below hb2)
          have HMU := Lib.hid (show M ≠ M7 by have := H71.out.lt; omega)
          clear hv hu hb2
          have x0 := HX.out.c0
          have x1 := HX.out.c1
          have x2 := HX.out.c2
          obtain ⟨X, hX, h7x, h6x, hbx⟩ := fd_put H7U.out H6U.out HMM.out ((q, 2, d), n) HBU.out HM7.out
          have r0 := H7U.out.c0
          have r1 := H7U.out.c1
          have r2 := H7U.out.c2
          have r3 := H7U.out.c3
          have t0 := H7U.out.f0
          have t1 := H7U.out.f1
          have t2 := H7U.out.f2
          have t3 := H7U.out.f3
          have H7X := Lib.hid h7x
          have H6X := Lib.hid h6x
          have HBX := Lib.hid hbx
          clear h7x h6x hbx
          go_wp2
          go_roundg n
          case measure => omega
          case rel => exact ⟨(n : Int) - 1, some n, rfl, by omega, by omega, HK1.out, by rw [← HY.out]; exact H7X.out, H6X.out, HBX.out⟩
        · have HY := Lib.hid (show ((((q, 2, d) : Ent), n) : Ent × Nat) = (dP p.data.toList, n) from congrArg (fun e => (e, n)) (HED.out (show (4 : Int) ≠ 1 by decide)))
          have HK1 := Lib.hid (show ((((q, 2, d) : Ent), n) : Ent × Nat) = R by rw [← HK.out, ask_opq HFN.out HF.out rfl, HY.out])
          go_wp2_with fail
          refine (HC.out).mono ?_
          rintro e w1 ⟨rfl, hb⟩
          have HB1 := Lib.hid (HB.out.trans (hb.mono HB.out.size))
          have H71 := Lib.hid (H7.out.below hb)
          have H61 := Lib.hid (H6.out.below hb)
          clear hb
          obtain ⟨V, U, M, hV, hM, hU, hv, hu, hb2⟩ := en_box3 w1 q 4 d
          have v0 := hv.c0
          have v1 := hv.c1
          have v2 := hv.c2
          have vf0 := hv.f0
          have vf1 := hv.f1
          have vf2 := hv.f2
          have HX := Lib.hid hu
          have HBU := Lib.hid (HB1.out.trans (hb2.mono HB1.out.size))
          have H7U := Lib.hid (H71.out.below hb2)
          have H6U := Lib.hid (H61.out.below hb2)
          have HMU := Lib.hid (show M ≠ M7 by have := H71.out.lt; omega)
          clear hv hu hb2
          have x1 := HX.out.c1
          have xf1 := HX.out.f1
          obtain ⟨U2, hU2, hu2, hb2⟩ : ∃ U2, U.setCell ⟨M, 1, none⟩ (.int .i64 2) = U2 ∧ EnAt U2 M q 2 d ∧ Below w.heap.size w U2 := ⟨_, rfl, set_of8 HX.out 1 (.int .i64 2), HBU.out.setCell (p := ⟨M, 1, none⟩) (show w.heap.size ≤ M by have := HB1.out.size; omega) _⟩
          have HX2 := Lib.hid hu2
          have HB2 := Lib.hid hb2
          have H72 := Lib.hid (show FdAt U2 M7 (had12 p.data.toList m) from hU2 ▸ H7U.out.cell HMU.out 1 (.int .i64 2))
          have H62 := Lib.hid (show FdAt U2 M6 noF from hU2 ▸ H6U.out.cell (by have := H61.out.lt; omega) 1 (.int .i64 2))
          clear hu2 hb2
          have z0 := HX2.out.c0
          have z1 := HX2.out.c1
          have z2 := HX2.out.c2
          obtain ⟨X, hX, h7x, h6x, hbx⟩ := fd_put H72.out H62.out HMM.out ((q, 2, d), n) HB2.out HM7.out
          have o0 := H72.out.c0
          have o1 := H72.out.c1
          have o2 := H72.out.c2
          have o3 := H72.out.c3
          have t0 := H72.out.f0
          have t1 := H72.out.f1
          have t2 := H72.out.f2
          have t3 := H72.out.f3
          have H7X := Lib.hid h7x
          have H6X := Lib.hid h6x
          have HBX := Lib.hid hbx
          clear h7x h6x hbx
          have r0 := H7X.out.c0
          have r1 := H7X.out.c1
          have r2 := H7X.out.c2
          have r3 := H7X.out.c3
          have p0 := H6X.out.c0
          have p1 := H6X.out.c1
          have p2 := H6X.out.c2
          have p3 := H6X.out.c3
          have s0 := H6X.out.f0
          have s1 := H6X.out.f1
          have s2 := H6X.out.f2
          have s3 := H6X.out.f3
          go_wp2
          try rw [Exit.noGoto_ret]
          have hld := lv_fd (H6X.out.set ((q, 2, d), n))
          refine bodyPost_ret (v := fdnV ((q, 2, d), n)) ?_ rfl ⟨by rw [HK1.out], below_fd HBX.out HM6.out ((q, 2, d), n)⟩
          rw [results_cell12 rfl]
          simp [asAddr, Result.andThen, hld]
        · cases m with
          | none =>
            have HK1 := Lib.hid (show ((((q, 1, d) : Ent), n) : Ent × Nat) = R by rw [← HK.out, ask_file HFN.out HF.out rfl])
            go_wp2_with fail
            refine (HC.out).mono ?_
            rintro e w1 ⟨rfl, hb⟩
            have HB1 := Lib.hid (HB.out.trans (hb.mono HB.out.size))
            have H71 := Lib.hid (H7.out.below hb)
            have H61 := Lib.hid (H6.out.below hb)
            clear hb
            obtain ⟨V, U, M, hV, hM, hU, hv, hu, hb2⟩ := en_box3 w1 q 1 d
            have v0 := hv.c0
            have v1 := hv.c1
            have v2 := hv.c2
            have vf0 := hv.f0
            have vf1 := hv.f1
            have vf2 := hv.f2
            have HX := Lib.hid hu
            have HBU := Lib.hid (HB1.out.trans (hb2.mono HB1.out.size))
            have H7U := Lib.hid (H71.out.below hb2)
            have H6U := Lib.hid (H61.out.below hb2)
            have HMU := Lib.hid (show M ≠ M7 by have := H71.out.lt; omega)
            clear hv hu hb2
            have x0 := HX.out.c0
            have x1 := HX.out.c1
            have x2 := HX.out.c2
            have k0 : U.cell? ⟨M7, 1, none⟩ = some (.int .i64 0) := H7U.out.c1
            obtain ⟨X, hX, h7x, h6x, hbx⟩ := fd_put H7U.out H6U.out HMM.out ((q, 1, d), n) HBU.out HM7.out
            have o0 := H7U.out.c0
            have o1 := H7U.out.c1
            have o2 := H7U.out.c2
            have o3 := H7U.out.c3
            have t0 := H7U.out.f0
            have t1 := H7U.out.f1
            have t2 := H7U.out.f2
            have t3 := H7U.out.f3
            have H7X := Lib.hid h7x
            have H6X := Lib.hid h6x
            have HBX := Lib.hid hbx
            clear h7x h6x hbx
            have r0 := H7X.out.c0
            have r1 := H7X.out.c1
            have r2 := H7X.out.c2
            have r3 := H7X.out.c3
            have p0 := H6X.out.c0
            have p1 := H6X.out.c1
            have p2 := H6X.out.c2
            have p3 := H6X.out.c3
            have s0 := H6X.out.f0
            have s1 := H6X.out.f1
            have s2 := H6X.out.f2
            have s3 := H6X.out.f3
            go_wp2
            try rw [Exit.noGoto_ret]
            have hld := lv_fd (H6X.out.set ((q, 1, d), n))
            refine bodyPost_ret (v := fdnV ((q, 1, d), n)) ?_ rfl ⟨by rw [HK1.out], below_fd HBX.out HM6.out ((q, 1, d), n)⟩
            rw [results_cell12 rfl]
            simp [asAddr, Result.andThen, hld]
          | some i =>
            obtain ⟨q2, d2, hy⟩ : ∃ q2 d2, had12 p.data.toList (some i) = ((q2, 2, d2), i) := ⟨_, _, rfl⟩
            have HK1 := Lib.hid (show ((((q2, 2, d2) : Ent), i) : Ent × Nat) = R by rw [← HK.out, ask_file HFN.out HF.out rfl, ← hy]; rfl)
            rw [hy] at H7
            clear hy
            go_wp2_with fail
            refine (HC.out).mono ?_
            rintro e w1 ⟨rfl, hb⟩
            have HB1 := Lib.hid (HB.out.trans (hb.mono HB.out.size))
            have H71 := Lib.hid (H7.out.below hb)
            have H61 := Lib.hid (H6.out.below hb)
            clear hb
            obtain ⟨V, U, M, hV, hM, hU, hv, hu, hb2⟩ := en_box3 w1 q 1 d
            have v0 := hv.c0
            have v1 := hv.c1
            have v2 := hv.c2
            have vf0 := hv.f0
            have vf1 := hv.f1
            have vf2 := hv.f2
            have HX := Lib.hid hu
            have HBU := Lib.hid (HB1.out.trans (hb2.mono HB1.out.size))
            have H7U := Lib.hid (H71.out.below hb2)
            have H6U := Lib.hid (H61.out.below hb2)
            have HMU := Lib.hid (show M ≠ M7 by have := H71.out.lt; omega)
            clear hv hu hb2
            have x0 := HX.out.c0
            have x1 := HX.out.c1
            have x2 := HX.out.c2
            have r0 := H7U.out.c0
            have r1 := H7U.out.c1
            have r2 := H7U.out.c2
            have r3 := H7U.out.c3
            have p0 := H6U.out.c0
            have p1 := H6U.out.c1
            have p2 := H6U.out.c2
            have p3 := H6U.out.c3
            have s0 := H6U.out.f0
            have s1 := H6U.out.f1
            have s2 := H6U.out.f2
            have s3 := H6U.out.f3
            go_wp2
            try rw [Exit.noGoto_ret]
            have hld := lv_fd (H6U.out.set ((q2, 2, d2), i))
            refine bodyPost_ret (v := fdnV ((q2, 2, d2), i)) ?_ rfl ⟨by rw [HK1.out], below_fd HBU.out HM6.out ((q2, 2, d2), i)⟩
            rw [results_cell12 rfl]
            simp [asAddr, Result.andThen, hld]
        · have HK1 := Lib.hid (show had12 p.data.toList m = R by rw [← HK.out, ask_white HFN.out HF.out rfl])
          go_wp2_with fail
          refine (HC.out).mono ?_
          rintro e w1 ⟨rfl, hb⟩
          have HB1 := Lib.hid (HB.out.trans (hb.mono HB.out.size))
          have H71 := Lib.hid (H7.out.below hb)
          have H61 := Lib.hid (H6.out.below hb)
          clear hb
          obtain ⟨V, U, M, hV, hM, hU, hv, hu, hb2⟩ := en_box3 w1 q 3 d
          have v0 := hv.c0
          have v1 := hv.c1
          have v2 := hv.c2
          have vf0 := hv.f0
          have vf1 := hv.f1
          have vf2 := hv.f2
          have HX := Lib.hid hu
          have HBU := Lib.hid (HB1.out.trans (hb2.mono HB1.out.size))
          have H7U := Lib.hid (H71.out.below hb2)
          have H6U := Lib.hid (H61.out.below hb2)
          have HMU := Lib.hid (show M ≠ M7 by have := H71.out.lt; omega)
          clear hv hu hb2
          have x0 := HX.out.c0
          have x1 := HX.out.c1
          have x2 := HX.out.c2
          rw [HK1.out] at H7U
          have r0 := H7U.out.c0
          have r1 := H7U.out.c1
          have r2 := H7U.out.c2
          have r3 := H7U.out.c3
          have p0 := H6U.out.c0
          have p1 := H6U.out.c1
          have p2 := H6U.out.c2
          have p3 := H6U.out.c3
          have s0 := H6U.out.f0
          have s1 := H6U.out.f1
          have s2 := H6U.out.f2
          have s3 := H6U.out.f3
          go_wp2
          try rw [Exit.noGoto_ret]
          have hld := lv_fd (H6U.out.set R)
          refine bodyPost_ret (v := fdnV R) ?_ rfl ⟨rfl, below_fd HBU.out HM6.out R⟩
          rw [results_cell12 rfl]
          simp [asAddr, Result.andThen, hld]
    · have HK1 := Lib.hid (show had12 p.data.toList m = R by rw [← HK.out, ask_end (by omega)])
      rw [HK1.out] at H7
      have r0 := H7.out.c0
      have r1 := H7.out.c1
      have r2 := H7.out.c2
      have r3 := H7.out.c3
      have p0 := H6.out.c0
      have p1 := H6.out.c1
      have p2 := H6.out.c2
      have p3 := H6.out.c3
      have s0 := H6.out.f0
      have s1 := H6.out.f1
      have s2 := H6.out.f2
      have s3 := H6.out.f3
      go_wp2
      try rw [Exit.noGoto_ret]
      have hld := lv_fd (H6.out.set R)
      refine bodyPost_ret (v := fdnV R) ?_ rfl ⟨rfl, below_fd HB.out HM6.out R⟩
      rw [results_cell12 rfl]
      simp [asAddr, Result.andThen, hld]
end Go.Proofs.YtlncdmdffpaojaaGreatDoor
