/-
  Where in a rising list an entry at a path stands or would stand: what stands ahead of it, the entry there, the list with one put there and without it. No condition.
  The contract of the document's own Less of two texts (package shaleref08), byte by byte; of Go's own order of texts. Condition: the texts' sizes fit.
  Contracts of sort.Search with package layer's closure, and of layer.place: where in a rising list an entry at a path stands or would stand, and whether one does. Conditions: the list lies in memory, rises, has at most 1000 entries.
  The contracts of package code's need and number, where what is asked for lies there: what each answers; what was in memory stays. Condition: the text begins with a number's bytes, the number is at most 2^62 and at most the bound.
  The contracts of package code's Str and New and of a Reader's Num, Str and Left, where what is asked for lies there: what each answers, and that the reader's place alone has moved. Condition: the reader's bytes begin with what is asked for, and its size fits.
  Contracts of package entry's Right, Lay, Less and Holds, for every entry. Conditions: as each says.
  The contract of layer.housed: whether a right entry lies in the root or in a directory of a rising list. Conditions: the list lies in memory, rises, has at most 1000 entries; the entry is right.
-/
import Derived.Test.YtflomllfehoedaaDoorPk1
import Derived.Test.YtflomllfehoedaaDoorS3Cut
import Derived.IntWalk
import Derived.BigQuiet
import Derived.Deep.LoopGhost
import Derived.Lib.Hide
import Derived.Laws.Cover1
import Derived.Lib.Strings
import Derived.Test.YtflomllfehoedaaDoorBs
import Derived.Defers
import Derived.Recover
import Derived.Test.YtflomllfehoedaaDoorErrV
import Derived.Test.YtflomllfehoedaaDoorS3Path2
namespace Go.Proofs.YtflomllfehoedaaDoor
open Go.RowKit

/-- How many entries stand ahead of a path. -/
def plc (l : List Ent) (p : List UInt8) : Nat := (l.filter fun a => lt8 (pl a) p).length
theorem plc_split {l : List Ent} (h : Asc l) (p : List UInt8) : l.take (plc l p) = l.filter (fun a => lt8 (pl a) p) ∧ l.drop (plc l p) = l.filter (fun a => !lt8 (pl a) p) := by
  induction l with
  | nil => exact ⟨rfl, rfl⟩
  | cons x r ih =>
    obtain ⟨h1, h2⟩ := List.pairwise_cons.1 h
    obtain ⟨i1, i2⟩ := ih h2
    unfold plc at i1 i2 ⊢
    cases hx : lt8 (pl x) p with
    | true =>
      rw [List.filter_cons_of_pos (by simpa using hx), List.filter_cons_of_neg (by simp [hx]), List.length_cons, List.take_succ_cons, List.drop_succ_cons, i1]
      exact ⟨rfl, i2⟩
    | false =>
      have h3 : ∀ y ∈ x :: r, lt8 (pl y) p = false := fun y hy => by
        rcases List.mem_cons.1 hy with rfl | hy
        · exact hx
        · cases h4 : lt8 (pl y) p with
          | false => rfl
          | true => have := lt8_trans (h1 y hy) h4; rw [hx] at this; cases this
      rw [List.filter_eq_nil_iff.2 fun y hy => by rw [h3 y hy]; simp, List.filter_eq_self.2 fun y hy => by rw [h3 y hy]; rfl]
      exact ⟨rfl, rfl⟩
theorem plc_le (l : List Ent) (p : List UInt8) : plc l p ≤ l.length := List.length_filter_le _ _
theorem plc_at {l : List Ent} (h : Asc l) (p : List UInt8) {i : Nat} (hi : i < l.length) : lt8 (pl l[i]) p = decide (i < plc l p) := by
  obtain ⟨h1, h2⟩ := plc_split h p
  by_cases hk : i < plc l p
  · rw [decide_eq_true hk]
    have : l[i] ∈ l.take (plc l p) := by
      rw [List.mem_take_iff_getElem]
      exact ⟨i, by omega, rfl⟩
    rw [h1] at this
    simpa using (List.mem_filter.1 this).2
  · rw [decide_eq_false hk]
    have : l[i] ∈ l.drop (plc l p) := by
      rw [List.mem_drop_iff_getElem]
      refine ⟨i - plc l p, by omega, ?_⟩
      congr 1
      omega
    rw [h2] at this
    simpa using (List.mem_filter.1 this).2
/-- What stands there. -/
theorem plc_fnd {l : List Ent} (h : Asc l) (p : List UInt8) : fnd l p = (l[plc l p]?).bind fun e => if pl e = p then some e else none := by
  obtain ⟨h1, h2⟩ := plc_split h p
  have hA : ∀ e ∈ l.take (plc l p), pl e ≠ p := fun e he => by
    rw [h1] at he
    exact lt8_ne (by simpa using (List.mem_filter.1 he).2)
  have hf : fnd l p = fnd (l.drop (plc l p)) p := by
    conv => lhs; rw [← List.take_append_drop (plc l p) l]
    unfold fnd
    rw [List.find?_append, List.find?_eq_none.2 fun e he => by simpa using hA e he]
    rfl
  have hd : Asc (l.drop (plc l p)) := List.Pairwise.sublist (List.drop_sublist _ _) h
  have hg : l[plc l p]? = (l.drop (plc l p))[0]? := by simp
  rw [hf, hg]
  have hB : ∀ e ∈ l.drop (plc l p), lt8 (pl e) p = false := fun e he => by
    rw [h2] at he
    simpa using (List.mem_filter.1 he).2
  cases hD : l.drop (plc l p) with
  | nil => rfl
  | cons x r =>
    rw [hD] at hd hB
    show fnd (x :: r) p = if pl x = p then some x else none
    split
    · rename_i hp
      unfold fnd
      rw [List.find?_cons_of_pos (by simpa using hp)]
    · rename_i hp
      rw [fnd_none]
      intro y hy
      rcases List.mem_cons.1 hy with rfl | hy
      · exact hp
      · intro e0
        have h3 := (List.pairwise_cons.1 hd).1 y hy
        rw [e0, hB x List.mem_cons_self] at h3
        cases h3
theorem plc_some {l : List Ent} (h : Asc l) {p : List UInt8} {e : Ent} (he : fnd l p = some e) : ∃ hk : plc l p < l.length, l[plc l p] = e ∧ pl e = p := by
  rw [plc_fnd h p] at he
  cases hg : l[plc l p]? with
  | none => rw [hg] at he; cases he
  | some x =>
    rw [hg, Option.bind_some] at he
    obtain ⟨hk, hx⟩ := List.getElem?_eq_some_iff.1 hg
    split at he
    · rename_i hp
      cases he
      exact ⟨hk, hx, hp⟩
    · cases he
theorem gt_drop {l : List Ent} (h : Asc l) (p : List UInt8) : l.filter (fun a => lt8 p (pl a)) = (l.drop (plc l p)).filter (fun a => lt8 p (pl a)) := by
  obtain ⟨h1, h2⟩ := plc_split h p
  conv => lhs; rw [← List.take_append_drop (plc l p) l]
  rw [List.filter_append, List.filter_eq_nil_iff.2, List.nil_append]
  intro e he
  rw [h1] at he
  have : lt8 (pl e) p = true := by simpa using (List.mem_filter.1 he).2
  rw [lt8_asymm this]
  simp
theorem wth_new {l : List Ent} (h : Asc l) {e : Ent} (hn : fnd l (pl e) = none) : wth l e = l.take (plc l (pl e)) ++ ([e] ++ l.drop (plc l (pl e))) := by
  obtain ⟨h1, h2⟩ := plc_split h (pl e)
  have h5 : (l.drop (plc l (pl e))).filter (fun a => lt8 (pl e) (pl a)) = l.drop (plc l (pl e)) := List.filter_eq_self.2 fun a ha => by
    have h3 : a ∈ l := List.mem_of_mem_drop ha
    rw [h2] at ha
    have h4 : lt8 (pl a) (pl e) = false := by simpa using (List.mem_filter.1 ha).2
    rcases lt8_tri (pl a) (pl e) with h | h | h
    · exact absurd h (fnd_none.1 hn a h3)
    · rw [h4] at h; cases h
    · exact h
  unfold wth
  rw [gt_drop h, h1, h5]
  rfl
theorem drop_plc {l : List Ent} (h : Asc l) {p : List UInt8} {x : Ent} (hn : fnd l p = some x) : l.drop (plc l p) = x :: l.drop (plc l p + 1) ∧ pl x = p ∧ ∀ y ∈ l.drop (plc l p + 1), lt8 p (pl y) = true := by
  obtain ⟨hk, hx, hp⟩ := plc_some h hn
  have hd : Asc (l.drop (plc l p)) := List.Pairwise.sublist (List.drop_sublist _ _) h
  have he := List.drop_eq_getElem_cons hk
  rw [hx] at he
  refine ⟨he, hp, fun y hy => ?_⟩
  unfold Asc at hd
  rw [he] at hd
  rw [← hp]
  exact (List.pairwise_cons.1 hd).1 y hy
theorem wth_old {l : List Ent} (h : Asc l) {e x : Ent} (hn : fnd l (pl e) = some x) : wth l e = l.take (plc l (pl e)) ++ ([e] ++ l.drop (plc l (pl e) + 1)) := by
  obtain ⟨h1, _⟩ := plc_split h (pl e)
  obtain ⟨h3, h4, h5⟩ := drop_plc h hn
  unfold wth
  rw [gt_drop h, h1, h3, List.filter_cons_of_neg (by rw [h4, lt8_irr]; simp), List.filter_eq_self.2 h5]
  rfl
theorem wout_old {l : List Ent} (h : Asc l) {p : List UInt8} {x : Ent} (hn : fnd l p = some x) : wout l p = l.take (plc l p) ++ l.drop (plc l p + 1) := by
  obtain ⟨h1, _⟩ := plc_split h p
  obtain ⟨h3, h4, h5⟩ := drop_plc h hn
  unfold wout
  conv => lhs; rw [← List.take_append_drop (plc l p) l]
  rw [List.filter_append, h3, List.filter_cons_of_neg (by simp [h4]), List.filter_eq_self.2, List.filter_eq_self.2]
  · intro a ha
    have := lt8_ne (h5 a ha)
    simpa using fun e0 => this e0.symm
  · intro a ha
    rw [h1] at ha
    have : lt8 (pl a) p = true := by simpa using (List.mem_filter.1 ha).2
    simpa using lt8_ne this
theorem Ents.take {w : World} {a : Option Addr} {cap : Nat} {l : List Ent} (h : Ents w a cap l) (n : Nat) : Ents w a cap (l.take n) := by
  obtain ⟨h1, h2⟩ := h
  refine ⟨by rw [List.length_take]; omega, ?_⟩
  rcases h2 with rfl | ⟨b, off, rfl, hlt, hc⟩
  · exact .inl (by simp)
  · refine .inr ⟨b, off, rfl, hlt, fun j x hx => hc j x ?_⟩
    rw [List.getElem?_take] at hx
    split at hx
    · exact hx
    · cases hx
/-- A list without its first n entries. -/
theorem Ents.drop {w : World} {b off cap : Nat} {l : List Ent} (h : Ents w (some ⟨b, off, none⟩) cap l) (n : Nat) (hn : n ≤ l.length) : Ents w (some ⟨b, off + n * 3, none⟩) (cap - n) (l.drop n) := by
  obtain ⟨h1, h2⟩ := h
  refine ⟨by rw [List.length_drop]; omega, ?_⟩
  rcases h2 with rfl | ⟨b', off', e0, hlt, hc⟩
  · exact .inl (by simp)
  · cases e0
    refine .inr ⟨b, off + n * 3, rfl, hlt, fun j x hx => ?_⟩
    rw [List.getElem?_drop] at hx
    have := hc (n + j) x hx
    rwa [show off + (n + j) * 3 = off + n * 3 + j * 3 by omega] at this
end Go.Proofs.YtflomllfehoedaaDoor

namespace Go.Proofs.YtflomllfehoedaaDoor
open Go.RowKit

theorem below_drewX {B : Nat} {a w : World} (h : Below B a w) (q : Nat) : Below B a (w.drewN q) := ⟨h.os, h.tape, h.output, h.size, h.block⟩
theorem less_nil (l : List UInt8) : Op.bytesLess l [] = false := by cases l <;> rfl
theorem less_at {a b : List UInt8} {x y : UInt8} {i : Nat} (ha : a[i]? = some x) (hb : b[i]? = some y) : Op.bytesLess (a.drop i) (b.drop i) = (decide (x < y) || (x == y && Op.bytesLess (a.drop (i + 1)) (b.drop (i + 1)))) := by
  obtain ⟨h1, e1⟩ := List.getElem?_eq_some_iff.1 ha
  obtain ⟨h2, e2⟩ := List.getElem?_eq_some_iff.1 hb
  rw [List.drop_eq_getElem_cons h1, List.drop_eq_getElem_cons h2, e1, e2]
  rfl
theorem less_end {a b : List UInt8} {i : Nat} (h : ¬ (i < a.length ∧ i < b.length)) (ha : i ≤ a.length) (hb : i ≤ b.length) : Op.bytesLess (a.drop i) (b.drop i) = decide (a.length < b.length) := by
  by_cases h2 : i < b.length
  · have h1 : a.drop i = [] := List.drop_eq_nil_iff.2 (by omega)
    rw [h1, List.drop_eq_getElem_cons h2, decide_eq_true (by omega)]
    rfl
  · rw [show b.drop i = [] from List.drop_eq_nil_iff.2 (by omega), less_nil, decide_eq_false (by omega)]
set_option maxRecDepth 10000 in
set_option maxHeartbeats 1000000 in
theorem refLess_any (a b : ByteArray) (ha : a.size ≤ 100000) (hb : b.size ≤ 100000) (w : World) : Calls Tryd.prog 42 #[.string a, .string b] w fun e w' => e = .returned (.bool (Op.bytesLess a.data.toList b.data.toList)) ∧ Below w.heap.size w w' := by
  obtain ⟨R, hR⟩ : ∃ R, Op.bytesLess a.data.toList b.data.toList = R := ⟨_, rfl⟩
  rw [hR]
  have HR := Lib.hid hR
  have HA := Lib.hid (Lib.size_eq a)
  have HB := Lib.hid (Lib.size_eq b)
  clear hR
  go_enter Tryd.func42, Tryd.ntmps42
  go_wp2
  go_loopg [5] (a.size + b.size) (fun g i wx => ∃ j : Nat, i = .int .i64 (j : Int) ∧ j + g = a.size + b.size ∧ j ≤ a.size ∧ j ≤ b.size ∧ Hid (Op.bytesLess (a.data.toList.drop j) (b.data.toList.drop j) = R ∧ Below w.heap.size w wx))
  case atStart => exact ⟨0, rfl, by omega, by omega, by omega, by simpa using HR.out, Below.refl _ _⟩
  case round =>
    obtain ⟨j, rfl, hj, hja, hjb, HI⟩ := hrel
    by_cases h1 : j < a.size
    · have h1' : (j : Int) < (a.size : Int) := by omega
      by_cases h2 : j < b.size
      · have h2' : (j : Int) < (b.size : Int) := by omega
        have hw : IntKind.i64.wrap ((j : Int) + 1) = (j : Int) + 1 := IntWalk.i64_in _ (by omega)
        have HL := Lib.hid (less_at (at_eq a j h1) (at_eq b j h2))
        by_cases he : a[j] = b[j]
        · have hne : ((a[j].toNat : Int) != (b[j].toNat : Int)) = false := by rw [he]; simp
          have HN := Lib.hid (show Op.bytesLess (a.data.toList.drop (j + 1)) (b.data.toList.drop (j + 1)) = R by
            rw [← HI.out.1, HL.out, he]
            simp)
          clear he
          go_wp2
          go_quiet (fail)
          go_wp2
          go_roundg (gk - 1)
          case measure => omega
          case rel => exact ⟨j + 1, by simp, by omega, by omega, by omega, HN.out, below_drewX HI.out.2 _⟩
        · have hne : ((a[j].toNat : Int) != (b[j].toNat : Int)) = true := by
            rw [bne_iff_ne]
            intro e
            exact he (UInt8.toNat_inj.1 (by omega))
          have HV := Lib.hid (show decide (a[j].toNat < b[j].toNat) = R by
            rw [← HI.out.1, HL.out, beq_eq_false_iff_ne.2 he, Bool.false_and, Bool.or_false]
            rw [Bool.eq_iff_iff, decide_eq_true_iff, decide_eq_true_iff, UInt8.lt_iff_toNat_lt])
          clear he
          go_wp2
          go_quiet (fail)
          go_wp2
          go_quiet (fail)
          go_wp2
          go_ret
          exact ⟨by rw [← HV.out]; rfl, below_drewX (below_drewX HI.out.2 _) _⟩
      · have h2' : ¬ (j : Int) < (b.size : Int) := by omega
        have HE := Lib.hid (less_end (a := a.data.toList) (b := b.data.toList) (i := j) (by rw [← HB.out]; omega) (by rw [← HA.out]; omega) (by rw [← HB.out]; omega))
        go_wp2
        go_ret
        exact ⟨by rw [← HI.out.1, HE.out, ← HA.out, ← HB.out]; simp, HI.out.2⟩
    · have h1' : ¬ (j : Int) < (a.size : Int) := by omega
      have HE := Lib.hid (less_end (a := a.data.toList) (b := b.data.toList) (i := j) (by rw [← HA.out]; omega) (by rw [← HA.out]; omega) (by rw [← HB.out]; omega))
      go_wp2
      go_ret
      exact ⟨by rw [← HI.out.1, HE.out, ← HA.out, ← HB.out]; simp, HI.out.2⟩
end Go.Proofs.YtflomllfehoedaaDoor

namespace Go.Proofs.YtflomllfehoedaaDoor
open Go.RowKit

theorem geq_str (t : TypeId) (a b : ByteArray) : binOp .geq t (.string a) (.string b) = pure (.bool !(Op.bytesLess a.toList b.toList)) := by simp [binOp, Op.stringOp]
attribute [local go_sem] geq_str
set_option maxRecDepth 10000 in
set_option maxHeartbeats 1000000 in
theorem clo9 (l : List Ent) (a : Option Addr) (cap : Nat) (p : ByteArray) (ba bp i : Nat) (w : World) (hi : i < l.length) (ca : w.cell? ⟨ba, 0, none⟩ = some (.slice a l.length cap)) (cp : w.cell? ⟨bp, 0, none⟩ = some (.string p)) (h : Ents w a cap l) :
    Calls Tryd.prog 62 (#[.int .i64 (i : Int)] ++ #[.pointer (some ⟨ba, 0, none⟩), .pointer (some ⟨bp, 0, none⟩)]) w fun e w' => e = .returned (.bool (!lt8 (pl l[i]) p.data.toList)) ∧ Below w.heap.size w w' := by
  obtain ⟨b, off, rfl, hb, hc⟩ := Ents.at h (Below.refl _ _) hi
  obtain ⟨x, hx⟩ : ∃ x, l[i] = x := ⟨_, rfl⟩
  rw [hx] at hc ⊢
  have c0 := hc.c0
  have hi' : (i : Int) < (l.length : Int) := by omega
  clear hc hx hb h
  go_enter Tryd.func62, Tryd.ntmps62
  go_wp2
  go_quiet (fail)
  go_wp2
  go_ret
  exact ⟨by rw [Lib.toList_data, Lib.toList_data]; rfl, below_drewX (Below.refl _ _) _⟩
set_option maxRecDepth 10000 in
set_option maxHeartbeats 2000000 in
theorem search9 (cb : Array Value) (n K : Nat) (w : World) (hn : n ≤ 100000) (hK : K ≤ n)
    (hf : ∀ w', Below w.heap.size w w' → ∀ i : Nat, i < n → Calls Tryd.prog 62 (#[.int .i64 (i : Int)] ++ cb) w' fun e w'' => e = .returned (.bool (decide (K ≤ i))) ∧ Below w'.heap.size w' w'') :
    Calls Tryd.prog 61 #[.int .i64 (n : Int), .func (.func 62) #[] cb] w fun e w' => e = .returned (.int .i64 (K : Int)) ∧ Below w.heap.size w w' := by
  have HF := Lib.hid hf
  clear hf
  go_enter Tryd.func61, Tryd.ntmps61
  go_wp2
  go_loopg [5, 6] n (fun g s5 s6 wr => ∃ (lo hi : Nat), s5 = .int .i64 (lo : Int) ∧ s6 = .int .i64 (hi : Int) ∧ lo ≤ hi ∧ hi ≤ n ∧ hi - lo ≤ g ∧ Hid (lo ≤ K ∧ K ≤ hi) ∧ Hid (Below w.heap.size w wr))
  case atStart => exact ⟨0, n, rfl, rfl, Nat.zero_le _, Nat.le_refl _, by omega, ⟨by omega, hK⟩, Below.refl _ _⟩
  case round =>
    obtain ⟨lo, hi, rfl, rfl, hlh, hin, hg, HI, HB⟩ := hrel
    by_cases hlt : lo < hi
    · have hc := HF.out wr HB.out ((lo + hi) / 2) (by omega)
      rw [show (((lo + hi) / 2 : Nat) : Int) = ((lo : Int) + (hi : Int)) / 2 by omega] at hc
      by_cases hp : K ≤ (lo + hi) / 2
      · rw [decide_eq_true hp] at hc
        have HP := Lib.hid hp
        have HC := Lib.hid hc
        clear hp hc
        go_wp2_with fail
        refine (HC.out).mono ?_
        rintro e w1 ⟨rfl, hb⟩
        have HB1 := Lib.hid (HB.out.trans (hb.mono HB.out.size))
        clear hb
        go_wp2
        go_roundg ((lo + hi) / 2 - lo)
        case measure => omega
        case rel => exact ⟨lo, (lo + hi) / 2, rfl, by rw [show ((lo : Int) + (hi : Int)) / 2 = (((lo + hi) / 2 : Nat) : Int) by omega], by omega, by omega, Nat.le_refl _, ⟨HI.out.1, HP.out⟩, HB1.out⟩
      · rw [decide_eq_false hp] at hc
        have HP := Lib.hid hp
        have HC := Lib.hid hc
        clear hp hc
        go_wp2_with fail
        refine (HC.out).mono ?_
        rintro e w1 ⟨rfl, hb⟩
        have HB1 := Lib.hid (HB.out.trans (hb.mono HB.out.size))
        clear hb
        go_wp2
        go_roundg (hi - ((lo + hi) / 2 + 1))
        case measure => omega
        case rel => exact ⟨(lo + hi) / 2 + 1, hi, by rw [show ((lo : Int) + (hi : Int)) / 2 + 1 = (((lo + hi) / 2 + 1 : Nat) : Int) by omega], rfl, by omega, hin, Nat.le_refl _, ⟨by have := HP.out; omega, HI.out.2⟩, HB1.out⟩
    · have HV := Lib.hid (show lo = K by have := HI.out; omega)
      go_wp2
      go_ret
      exact ⟨by rw [HV.out]; rfl, HB.out⟩
set_option maxRecDepth 10000 in
set_option maxHeartbeats 2000000 in
theorem place9 (l : List Ent) (a : Option Addr) (cap : Nat) (p : ByteArray) (w : World) (h : Ents w a cap l) (hA : Asc l) (hl : l.length ≤ 1000) :
    Calls Tryd.prog 38 #[.slice a l.length cap, .string p] w fun e w' => e = .returned (.tuple #[.int .i64 (plc l p.data.toList : Nat), .bool (fnd l p.data.toList).isSome]) ∧ Below w.heap.size w w' := by
  obtain ⟨W, hW⟩ : ∃ W, w.alloc (.cells #[.slice a l.length cap] 22) = W := ⟨_, rfl⟩
  obtain ⟨N, hN⟩ : ∃ N, w.heap.size = N := ⟨_, rfl⟩
  obtain ⟨V, hV⟩ : ∃ V, W.alloc (.cells #[.string p] 9) = V := ⟨_, rfl⟩
  obtain ⟨M, hM⟩ : ∃ M, W.heap.size = M := ⟨_, rfl⟩
  have hb0 : Below w.heap.size w W := by rw [← hW]; exact (Below.refl _ _).alloc (Nat.le_refl _) _
  have hb1 : Below W.heap.size W V := by rw [← hV]; exact (Below.refl _ _).alloc (Nat.le_refl _) _
  have ca0 : W.cell? ⟨N, 0, none⟩ = some (.slice a l.length cap) := by rw [← hW, ← hN]; simp
  have hlt0 : N < W.heap.size := by rw [← hW, ← hN]; simp
  have ca : V.cell? ⟨N, 0, none⟩ = some (.slice a l.length cap) := (hb1.cell (p := ⟨N, 0, none⟩) hlt0).trans ca0
  have cp : V.cell? ⟨M, 0, none⟩ = some (.string p) := by rw [← hV, ← hM]; simp
  have hbV : Below w.heap.size w V := hb0.trans (hb1.mono hb0.size)
  have HE := Lib.hid (RowN.below h hbV)
  have HBV := Lib.hid hbV
  have HS := Lib.hid (show N < V.heap.size ∧ M < V.heap.size by
    have := hb1.size
    refine ⟨by omega, ?_⟩
    rw [← hV, ← hM]; simp)
  obtain ⟨K, hK⟩ : ∃ K, plc l p.data.toList = K := ⟨_, rfl⟩
  have HK := Lib.hid (show K ≤ l.length by rw [← hK]; exact plc_le _ _)
  have HAT := Lib.hid (fun i (hi : i < l.length) => plc_at hA p.data.toList hi)
  have HFN := Lib.hid (plc_fnd hA p.data.toList)
  rw [hK] at HAT HFN ⊢
  have HC := Lib.hid (search9 #[.pointer (some ⟨N, 0, none⟩), .pointer (some ⟨M, 0, none⟩)] l.length K V (by omega) HK.out fun w' hb i hi => by
    refine (clo9 l a cap p N M i w' hi ((hb.cell (p := ⟨N, 0, none⟩) HS.out.1).trans ca) ((hb.cell (p := ⟨M, 0, none⟩) HS.out.2).trans cp) (RowN.below HE.out hb)).mono ?_
    rintro e w'' ⟨rfl, hb2⟩
    rw [HAT.out i hi]
    refine ⟨?_, hb2⟩
    congr 2
    by_cases h : i < K
    · rw [decide_eq_true h, decide_eq_false (show ¬ K ≤ i by omega)]; rfl
    · rw [decide_eq_false h, decide_eq_true (show K ≤ i by omega)]; rfl)
  have HCA := Lib.hid ca
  have HCP := Lib.hid cp
  have hmf : ∀ (fn : Fn) (first cap : Array Value) (w : World), (Instr.makeFunc fn first cap).run Tryd.prog w = .ok (.func fn first cap) w := fun _ _ _ _ => rfl
  clear h hA hb0 hb1 ca0 hlt0 cp hbV hK HAT
  go_enter Tryd.func38, Tryd.ntmps38
  go_wp2_with fail
  refine (HC.out).mono ?_
  rintro e w1 ⟨rfl, hb⟩
  have HB1 := Lib.hid (HBV.out.trans (hb.mono HBV.out.size))
  have HE1 := Lib.hid (RowN.below HE.out hb)
  have ca := (hb.cell (p := ⟨N, 0, none⟩) HS.out.1).trans HCA.out
  have cp := (hb.cell (p := ⟨M, 0, none⟩) HS.out.2).trans HCP.out
  clear hb
  by_cases hlt : K < l.length
  · have g1 : decide ((K : Int) < (l.length : Int)) = true := decide_eq_true (by omega)
    have hlt' : (K : Int) < (l.length : Int) := by omega
    obtain ⟨b, off, rfl, _, hc⟩ := Ents.at HE1.out (Below.refl _ _) hlt
    have hf := HFN.out
    rw [List.getElem?_eq_getElem hlt, Option.bind_some] at hf
    obtain ⟨x, hx⟩ : ∃ x, l[K] = x := ⟨_, rfl⟩
    rw [hx] at hc hf
    have c0 := hc.c0
    clear hc hx
    by_cases hp : pl x = p.data.toList
    · have gp : (x.1.toList == p.toList) = true := by rw [Lib.toList_data, Lib.toList_data, beq_iff_eq]; exact hp
      rw [if_pos hp] at hf
      have HV := Lib.hid (show (fnd l p.data.toList).isSome = true by rw [hf]; rfl)
      clear hp hf HFN
      go_wp2
      go_quiet (fail)
      go_wp2
      go_ret2
      exact ⟨by rw [HV.out]; rfl, below_drewX HB1.out _⟩
    · have gp : (x.1.toList == p.toList) = false := by rw [Lib.toList_data, Lib.toList_data, beq_eq_false_iff_ne]; exact hp
      rw [if_neg hp] at hf
      have HV := Lib.hid (show (fnd l p.data.toList).isSome = false by rw [hf]; rfl)
      clear hp hf HFN
      go_wp2
      go_quiet (fail)
      go_wp2
      go_ret2
      exact ⟨by rw [HV.out]; rfl, below_drewX HB1.out _⟩
  · have g1 : decide ((K : Int) < (l.length : Int)) = false := decide_eq_false (by omega)
    have hlt' : ¬ (K : Int) < (l.length : Int) := by omega
    have hf := HFN.out
    rw [List.getElem?_eq_none (by omega), Option.bind_none] at hf
    have HV := Lib.hid (show (fnd l p.data.toList).isSome = false by rw [hf]; rfl)
    clear hf HFN
    go_wp2
    go_quiet (fail)
    go_wp2
    go_ret2
    exact ⟨by rw [HV.out]; rfl, below_drewX HB1.out _⟩
end Go.Proofs.YtflomllfehoedaaDoor

namespace Go.Proofs.YtflomllfehoedaaDoor
open Go.RowKit

set_option maxHeartbeats 1000000 in
theorem need_true (w : World) : Calls Tryd.prog 85 #[.bool true] w fun e w' => e = .returned (.tuple #[]) ∧ w = w' := by
  go_enter Tryd.func85, Tryd.ntmps85
  go_wp2
  go_end0
  exact ⟨rfl, rfl⟩

theorem drop_at (s : ByteArray) (k : Nat) (c : UInt8) (l : List UInt8) (h : s.data.toList.drop k = c :: l) : ∃ hk : k < s.size, s[k] = c ∧ s.data.toList.drop (k + 1) = l := by
  have hk : k < s.data.toList.length := by
    rcases Nat.lt_or_ge k s.data.toList.length with h' | h'
    · exact h'
    · rw [List.drop_eq_nil_of_le h'] at h; cases h
  rw [List.drop_eq_getElem_cons hk] at h
  injection h with h1 h2
  exact ⟨by simpa using hk, h1, h2⟩
theorem pow_step (n k : Nat) : n % 128 ^ k + n / 128 ^ k % 128 * 128 ^ k = n % 128 ^ (k + 1) := by
  rw [Nat.pow_succ, Nat.mod_mul, Nat.mul_comm]

theorem wrap_one {e n : Nat} (h : e ≤ n) (hn : n ≤ 4611686018427387904) : wrap64 (e : Int) = (e : Int) := by
  unfold wrap64
  omega
theorem wrap_two {a e c : Nat} (h : a + e = c) (hc : c ≤ 4611686018427387904) : wrap64 ((a : Int) + (e : Int)) = (c : Int) := by
  unfold wrap64
  omega
theorem below_drewN {B : Nat} {a w : World} (h : Below B a w) (q : Nat) : Below B a (w.drewN q) := ⟨h.os, h.tape, h.output, h.size, h.block⟩

set_option maxRecDepth 10000 in
set_option maxHeartbeats 2000000 in
theorem number_good (n : Nat) (most : Int) (s : ByteArray) (rest : List UInt8) (hs : s.data.toList = dg n ++ rest) (hz : s.size ≤ maxLen) (hn : n ≤ 4611686018427387904) (hm : (n : Int) ≤ most) (w : World) :
    Calls Tryd.prog 78 #[.string s, .int .i64 most] w fun e w' => e = .returned (.tuple #[.int .i64 (n : Int), .string (s.extract (dg n).length s.size)]) ∧ Below w.heap.size w w' := by
  have HS := Lib.hid hs
  have HN := Lib.hid hn
  have HM := Lib.hid hm
  have HZ : Hid (s.size ≤ 9223372036854775807) := by unfold maxLen at hz; exact (by omega : s.size ≤ 9223372036854775807)
  clear hs hn hm hz
  rcases Int.lt_or_le 9 (s.size : Int) with hsz | hsz
  all_goals
    go_enter Tryd.func78, Tryd.ntmps78
    go_wp2
    go_loopg [6, 11] 9 (fun g a i wr => ∃ (k acc : Nat), a = .int .i64 (acc : Int) ∧ i = .int .i64 (k : Int) ∧ Hid (k + g = 9 ∧ acc = n % 128 ^ k ∧ s.data.toList.drop k = dg (n / 128 ^ k) ++ rest ∧ (k = 0 ∨ 128 ^ k ≤ n) ∧ w = wr))
    case atStart => exact ⟨0, 0, rfl, rfl, rfl, by simp [Nat.mod_one], by simpa using HS.out, .inl rfl, rfl⟩
    case round =>
      obtain ⟨k, acc, rfl, rfl, HR⟩ := hrel
      obtain ⟨h1, h2, h3, h4, rfl⟩ := HR.out
      have hk9 : k < 9 := by
        rcases h4 with h4 | h4
        · omega
        · rcases Nat.lt_or_ge k 9 with h5 | h5
          · exact h5
          · have h6 : 128 ^ 9 ≤ 128 ^ k := Nat.pow_le_pow_right (by decide) h5
            have := HN.out
            omega
      have hk9' : (k : Int) < 9 := by omega
      have HA := Lib.hid h2
      have HG := Lib.hid h1
      have HK0 := Lib.hid h4
      clear h1 h2 h4 HR
      by_cases hlt : n / 128 ^ k < 128
      · rw [dg_last hlt] at h3
        obtain ⟨hk, hc, hd⟩ := drop_at s k _ _ h3
        have hkz : (k : Int) < (s.size : Int) := by omega
        obtain ⟨d, hdd⟩ : ∃ d, n / 128 ^ k = d := ⟨_, rfl⟩
        obtain ⟨e, hee⟩ : ∃ e, d * 2 ^ (7 * k) = e := ⟨_, rfl⟩
        rw [hdd] at hlt hc
        have hsum : acc + e = n := by
          have h5 := Nat.div_add_mod' n (128 ^ k)
          rw [hdd, show 128 ^ k = 2 ^ (7 * k) by rw [Nat.pow_mul], hee] at h5
          rw [HA.out, show 128 ^ k = 2 ^ (7 * k) by rw [Nat.pow_mul]]
          omega
        have hb : (s[k].toNat : Int) = (d : Int) := by rw [hc, ofNat_toNat (by omega)]
        have hmod : (d : Int) % 128 = (d : Int) := by omega
        have hge : ¬ (128 : Int) ≤ (d : Int) := by omega
        have hn1 : (n : Int) ≤ 4611686018427387904 := Int.ofNat_le.2 HN.out
        have w1 : wrap64 ((d : Int) * 2 ^ (7 * k)) = (e : Int) := by
          have h5 : (d : Int) * 2 ^ (7 * k) = (e : Int) := by rw [← hee]; push_cast; rfl
          rw [h5]
          exact wrap_one (by rw [← hsum]; exact Nat.le_add_left _ _) HN.out
        have w2 : wrap64 ((acc : Int) + (e : Int)) = (n : Int) := by
          exact wrap_two hsum HN.out
        have hn2 : (n : Int) ≤ most := HM.out
        have HE : Hid ((dg n).length = k + 1) := by
          have h5 := congrArg List.length hd
          have h6 := congrArg List.length HS.out
          have h7 := Lib.size_eq s
          simp at h5 h6
          exact (by omega : (dg n).length = k + 1)
        have hd0 : d = 0 → k = 0 := fun h => by
          rcases HK0.out with h5 | h5
          · exact h5
          · have : 1 ≤ n / 128 ^ k := (Nat.one_le_div_iff (Nat.pow_pos (by decide))).2 h5
            omega
        clear hd h3 hlt hc hee hsum hdd
        by_cases hz0 : d = 0
        · have hk0 : ((k : Int) == 0) = true := by have := hd0 hz0; simp; omega
          have hdz : ((d : Int) != 0) = false := by simp; omega
          clear hd0 hz0
          go_wp2_with fail
          refine (need_true _).mono ?_
          rintro e w' ⟨rfl, rfl⟩
          go_wp2_with fail
          refine (need_true _).mono ?_
          rintro e w' ⟨rfl, rfl⟩
          go_wp2
          go_quiet (fail)
          go_wp2
          go_ret2
          exact ⟨by rw [HE.out]; rfl, below_drewN (Below.refl _ _) _⟩
        · have hdz : ((d : Int) != 0) = true := by simp; omega
          clear hd0 hz0
          go_wp2_with fail
          refine (need_true _).mono ?_
          rintro e w' ⟨rfl, rfl⟩
          go_wp2_with fail
          refine (need_true _).mono ?_
          rintro e w' ⟨rfl, rfl⟩
          go_wp2
          go_quiet (fail)
          go_wp2
          go_ret2
          exact ⟨by rw [HE.out]; rfl, below_drewN (Below.refl _ _) _⟩
      · rw [dg_more hlt] at h3
        obtain ⟨hk, hc, hd⟩ := drop_at s k _ _ h3
        have hkz : (k : Int) < (s.size : Int) := by omega
        obtain ⟨d, hdd⟩ : ∃ d, n / 128 ^ k % 128 + 128 = d := ⟨_, rfl⟩
        obtain ⟨r, hrr⟩ : ∃ r, n / 128 ^ k % 128 = r := ⟨_, rfl⟩
        obtain ⟨e, hee⟩ : ∃ e, r * 2 ^ (7 * k) = e := ⟨_, rfl⟩
        obtain ⟨a2, haa⟩ : ∃ a2, acc + e = a2 := ⟨_, rfl⟩
        have hsum : a2 = n % 128 ^ (k + 1) := by
          rw [← haa, ← hee, ← hrr, HA.out, show 2 ^ (7 * k) = 128 ^ k by rw [Nat.pow_mul]]
          exact pow_step n k
        have hle : a2 ≤ n := by rw [hsum]; exact Nat.mod_le _ _
        have hr : r < 128 := by rw [← hrr]; exact Nat.mod_lt _ (by decide)
        have hdr : d = r + 128 := by rw [← hdd, hrr]
        rw [hdd] at hc
        have hb : (s[k].toNat : Int) = (d : Int) := by rw [hc, ofNat_toNat (by omega)]
        have hmod : (d : Int) % 128 = (r : Int) := by omega
        have hge : (128 : Int) ≤ (d : Int) := by omega
        have hn1 : (n : Int) ≤ 4611686018427387904 := Int.ofNat_le.2 HN.out
        have w1 : wrap64 ((r : Int) * 2 ^ (7 * k)) = (e : Int) := by
          have h5 : (r : Int) * 2 ^ (7 * k) = (e : Int) := by rw [← hee]; push_cast; rfl
          rw [h5]
          exact wrap_one (Nat.le_trans (by rw [← haa]; exact Nat.le_add_left _ _) hle) HN.out
        have w2 : wrap64 ((acc : Int) + (e : Int)) = (a2 : Int) := by
          exact wrap_two haa (Nat.le_trans hle HN.out)
        have HNX : Hid (a2 = n % 128 ^ (k + 1) ∧ s.data.toList.drop (k + 1) = dg (n / 128 ^ (k + 1)) ++ rest ∧ 128 ^ (k + 1) ≤ n) := by
          refine ⟨hsum, ?_, ?_⟩
          · rw [hd, Nat.pow_succ, Nat.div_div_eq_div_mul]
            rfl
          · rw [Nat.pow_succ]
            have h5 : 128 ≤ n / 128 ^ k := by omega
            rw [Nat.le_div_iff_mul_le (Nat.pow_pos (by decide))] at h5
            rw [Nat.mul_comm]
            exact h5
        clear h3 hlt hc hd hdd hrr hee haa hsum hle hr hdr hn1
        go_wp2
        go_roundg (gk - 1)
        case measure => have := HG.out; omega
        case rel => exact ⟨k + 1, a2, congrArg _ w2, by go_num, by have := HG.out; omega, HNX.out.1, HNX.out.2.1, .inr HNX.out.2.2, rfl⟩
end Go.Proofs.YtflomllfehoedaaDoor

namespace Go.Proofs.YtflomllfehoedaaDoor
open Go.RowKit

/-- A reader in memory: its block, and the bytes that are left. -/
def Rd (w : World) (p : Nat) (s : ByteArray) : Prop := p < w.heap.size ∧ w.cell? ⟨p, 0, none⟩ = some (.string s) ∧ w.frozen? ⟨p, 0, none⟩ = false

theorem below_set {B : Nat} {w w' : World} (h : Below B w w') (a : Addr) (v : Value) : Below B (w.setCell a v) (w'.setCell a v) := by
  refine ⟨h.os, h.tape, h.output, ?_, fun k hk => ?_⟩
  · simpa [World.setCell] using h.size
  · by_cases e : k = a.block
    · simp only [World.setCell, Array.getElem?_modify, e, if_true]
      have := h.block k hk
      rw [e] at this
      rw [this]
    · rw [Below.heap_setCell _ _ _ _ e, Below.heap_setCell _ _ _ _ e]
      exact h.block k hk
theorem Rd.below {w w' : World} {p : Nat} {s : ByteArray} (h : Rd w p s) (hb : Below w.heap.size w w') : Rd w' p s :=
  ⟨Nat.lt_of_lt_of_le h.1 hb.size, (hb.cell (p := ⟨p, 0, none⟩) h.1).trans h.2.1, (hb.frozen (p := ⟨p, 0, none⟩) h.1).trans h.2.2⟩
theorem Rd.set {w : World} {p : Nat} {s : ByteArray} (h : Rd w p s) (t : ByteArray) : Rd (w.setCell ⟨p, 0, none⟩ (.string t)) p t :=
  ⟨by simpa [World.setCell] using h.1, World.cell?_setCell_same _ _ _ h.2.1, by simpa using h.2.2⟩
theorem Rd.next {w w' : World} {p : Nat} {s t : ByteArray} (h : Rd w p s) (hb : Below w.heap.size (w.setCell ⟨p, 0, none⟩ (.string t)) w') : Rd w' p t :=
  (h.set t).below (by simpa [World.setCell] using hb)
theorem below_next {B : Nat} {W w w' : World} {p : Nat} {v : Value} (h : Below B W w) (hp : B ≤ p) (hw : B ≤ w.heap.size) (hb : Below w.heap.size (w.setCell ⟨p, 0, none⟩ v) w') : Below B W w' :=
  (h.setCell (p := ⟨p, 0, none⟩) hp v).trans (hb.mono hw)

theorem drop_bs {s : ByteArray} {a rest : List UInt8} (h : s.data.toList = a ++ rest) : s.extract a.length s.size = bs rest := by
  apply bs_of
  rw [Lib.extract_data, h, List.drop_left, List.take_of_length_le]
  have := congrArg List.length h
  have h2 := Lib.size_eq s
  simp at this
  omega
theorem number_list (n : Nat) (most : Int) (s : ByteArray) (rest : List UInt8) (hs : s.data.toList = dg n ++ rest) (hz : s.size ≤ maxLen) (hn : n ≤ 4611686018427387904) (hm : (n : Int) ≤ most) (w : World) :
    Calls Tryd.prog 78 #[.string s, .int .i64 most] w fun e w' => e = .returned (.tuple #[.int .i64 (n : Int), .string (bs rest)]) ∧ Below w.heap.size w w' := by
  have := number_good n most s rest hs hz hn hm w
  rw [drop_bs hs] at this
  exact this

set_option maxHeartbeats 1000000 in
theorem num1_good (n : Nat) (most : Int) (s : ByteArray) (rest : List UInt8) (hs : s.data.toList = dg n ++ rest) (hz : s.size ≤ maxLen) (hn : n ≤ 4611686018427387904) (hm : (n : Int) ≤ most) (q : Nat) (w : World) (hq : w.cell? ⟨q, 0, none⟩ = some (.int .i64 most)) :
    Calls Tryd.prog 77 #[.string s, .pointer (some ⟨q, 0, none⟩)] w fun e w' => e = .returned (.tuple #[.int .i64 (n : Int), .string (bs rest)]) ∧ Below w.heap.size w w' := by
  have H := Lib.hid (number_list n most s rest hs hz hn hm w)
  clear hs hz hn hm
  go_enter Tryd.func77, Tryd.ntmps77
  go_wp2_with fail
  refine H.out.mono ?_
  rintro e w1 ⟨rfl, hb⟩
  have HB := Lib.hid hb
  clear hb hq
  go_wp2
  go_ret2
  exact ⟨rfl, HB.out⟩

set_option maxRecDepth 10000 in
set_option maxHeartbeats 1000000 in
theorem str1_good (x : ByteArray) (most : Int) (s : ByteArray) (rest : List UInt8) (hs : s.data.toList = dg x.size ++ (x.data.toList ++ rest)) (hz : s.size ≤ 4611686018427387904) (hm : (x.size : Int) ≤ most) (q : Nat) (w : World) (hq : w.cell? ⟨q, 0, none⟩ = some (.int .i64 most)) :
    Calls Tryd.prog 90 #[.string s, .pointer (some ⟨q, 0, none⟩)] w fun e w' => e = .returned (.tuple #[.string x, .string (bs rest)]) ∧ Below w.heap.size w w' := by
  have hx : x.size ≤ s.size := by
    have := congrArg List.length hs
    have h2 := Lib.size_eq s
    have h3 := Lib.size_eq x
    simp at this
    omega
  have H := Lib.hid (number_list x.size most s _ hs (by unfold maxLen; omega) (Nat.le_trans hx hz) hm w)
  obtain ⟨R, hR⟩ : ∃ R, bs (x.data.toList ++ rest) = R := ⟨_, rfl⟩
  rw [hR] at H
  have hRl : R.data.toList = x.data.toList ++ rest := by rw [← hR, bs_list]
  have hRs : x.size ≤ R.size := by
    have := congrArg List.length hRl
    have h2 := Lib.size_eq R
    have h3 := Lib.size_eq x
    simp at this
    omega
  have hRz : R.size ≤ 4611686018427387904 := by
    have := congrArg List.length hRl
    have h4 := congrArg List.length hs
    have h2 := Lib.size_eq R
    have h3 := Lib.size_eq s
    simp at this h4
    omega
  have e1 : R.extract 0 x.size = x := by
    have h3 := Lib.size_eq x
    rw [← bs_self x]
    apply bs_of
    rw [Lib.extract_data, hRl, List.drop_zero, Nat.sub_zero, bs_size, List.take_left]
  have e2 : R.extract x.size R.size = bs rest := by
    rw [Lib.size_eq x]
    exact drop_bs hRl
  have hle : (x.size : Int) ≤ (R.size : Int) := by omega
  clear hs hz hm hx hR hRl
  go_enter Tryd.func90, Tryd.ntmps90
  go_wp2_with fail
  refine H.out.mono ?_
  rintro e w1 ⟨rfl, hb⟩
  have HB := Lib.hid hb
  clear hb hq
  go_wp2_with fail
  refine (need_true _).mono ?_
  rintro e w2 ⟨rfl, rfl⟩
  go_wp2
  go_quiet (fail)
  go_wp2
  go_ret2
  exact ⟨rfl, below_drewN HB.out _⟩

theorem catchI_idle (p : Addr) (w : World) :
    CallsD Tryd.prog 84 #[.pointer (some p)] .returning w fun e u' w' => e = .returned (.tuple #[]) ∧ u' = .returning ∧ w' = w := by
  refine callsD_of_wpS Tryd.func84 rfl fun c₀ cs hu => ?_
  apply wpS_seq
  apply wpS_region
  simp [wpOpsS, go_sem, recoverD, hu, Tryd.ntmps84, Exit.thenS]
  apply wpS_seq
  apply wpS_seq
  apply wpS_region
  simp [wpOpsS, go_sem, Exit.thenS]
  refine wpS_cond (t := true) (by simp [Act.eval, Array.replicate]) ?_
  simp only [if_true]
  refine wpS_of_wp (wp_ret ?_)
  cases c₀
  simp_all [bodyPostS, results, Tryd.results84, Exit.thenS]
theorem catchS_idle (p : Addr) (w : World) :
    CallsD Tryd.prog 95 #[.pointer (some p)] .returning w fun e u' w' => e = .returned (.tuple #[]) ∧ u' = .returning ∧ w' = w := by
  refine callsD_of_wpS Tryd.func95 rfl fun c₀ cs hu => ?_
  apply wpS_seq
  apply wpS_region
  simp [wpOpsS, go_sem, recoverD, hu, Tryd.ntmps95, Exit.thenS]
  apply wpS_seq
  apply wpS_seq
  apply wpS_region
  simp [wpOpsS, go_sem, Exit.thenS]
  refine wpS_cond (t := true) (by simp [Act.eval, Array.replicate]) ?_
  simp only [if_true]
  refine wpS_of_wp (wp_ret ?_)
  cases c₀
  simp_all [bodyPostS, results, Tryd.results95, Exit.thenS]

theorem fnew (w : World) (v : Value) (t : TypeId) : (w.alloc (.cells #[v] t)).cell? ⟨w.heap.size, 0, none⟩ = some v ∧ (w.alloc (.cells #[v] t)).frozen? ⟨w.heap.size, 0, none⟩ = false := ⟨by simp, by simp [go_sem]⟩

set_option maxRecDepth 10000 in
set_option maxHeartbeats 2000000 in
theorem takeI_good (n : Nat) (most : Int) (s : ByteArray) (rest : List UInt8) (hs : s.data.toList = dg n ++ rest) (hz : s.size ≤ 4611686018427387904) (hn : n ≤ 4611686018427387904) (hm : (n : Int) ≤ most) (p q : Nat) (w : World) (hp : Rd w p s) (hq : w.cell? ⟨q, 0, none⟩ = some (.int .i64 most)) (hqw : q < w.heap.size) :
    Calls Tryd.prog 76 #[.pointer (some ⟨p, 0, none⟩), .func (.func 77) #[] #[.pointer (some ⟨q, 0, none⟩)]] w fun e w' => e = .returned (.tuple #[.int .i64 (n : Int), .nilIface]) ∧ Below w.heap.size (w.setCell ⟨p, 0, none⟩ (.string (bs rest))) w' := by
  have hmf : ∀ (fn : Fn) (first cap : Array Value) (w : World), (Instr.makeFunc fn first cap).run Tryd.prog w = .ok (.func fn first cap) w := fun _ _ _ _ => rfl
  have hB : Below w.heap.size w (w.alloc (.cells #[.nilIface] 27)) := (Below.refl _ _).alloc (Nat.le_refl _) _
  have H := Lib.hid (num1_good n most s rest hs (by unfold maxLen; omega) hn hm q (w.alloc (.cells #[.nilIface] 27)) ((hB.cell (p := ⟨q, 0, none⟩) hqw).trans hq))
  have hp1 := hp.below hB
  have hc := hp1.2.1
  have HP := Lib.hid hp
  have HP1 := Lib.hid hp1
  have HB := Lib.hid hB
  have hne : ¬ p = w.heap.size := by have := hp.1; omega
  clear hp hp1 hB hs hz hn hm hq hqw
  go_enter_defers Tryd.func76, Tryd.ntmps76
  go_wp2_with fail
  refine H.out.mono ?_
  rintro e w2 ⟨rfl, hb⟩
  have hp2 := HP1.out.below hb
  have hc2 := hp2.2.1
  have hf2 := hp2.2.2
  obtain ⟨n1, n2⟩ := fnew w .nilIface 27
  have hc3 : w2.cell? ⟨w.heap.size, 0, none⟩ = some .nilIface := (hb.cell (p := ⟨w.heap.size, 0, none⟩) (by simp)).trans n1
  have hf3 : w2.frozen? ⟨w.heap.size, 0, none⟩ = false := (hb.frozen (p := ⟨w.heap.size, 0, none⟩) (by simp)).trans n2
  have HB2 := Lib.hid ((HB.out.trans (hb.mono HB.out.size)))
  clear hb n1 n2 hc hp2
  have hc4 : ((w2.setCell ⟨p, 0, none⟩ (.string (bs rest))).setCell ⟨w.heap.size, 0, none⟩ .nilIface).cell? ⟨w.heap.size, 0, none⟩ = some .nilIface :=
    World.cell?_setCell_same _ _ _ ((World.cell?_setCell_other _ _ _ _ (by simp)).trans hc3)
  have HE : Hid (Below w.heap.size (w.setCell ⟨p, 0, none⟩ (.string (bs rest))) ((w2.setCell ⟨p, 0, none⟩ (.string (bs rest))).setCell ⟨w.heap.size, 0, none⟩ .nilIface)) :=
    (below_set HB2.out _ _).setCell (p := ⟨w.heap.size, 0, none⟩) (Nat.le_refl _) _
  go_wp2
  refine leaves_cons (f := 84) (args := #[.pointer (some ⟨w.heap.size, 0, none⟩)]) (by simp) (by simp [go_sem]) ?_
  refine (catchI_idle ⟨w.heap.size, 0, none⟩ _).mono ?_
  rintro e u' w'' ⟨rfl, rfl, rfl⟩
  clear hc2 hf2 hc3 hf3
  simp [Leaves, settle, results, Tryd.results76, go_sem, hc4]
  exact HE.out

set_option maxRecDepth 10000 in
set_option maxHeartbeats 2000000 in
theorem takeS_good (x : ByteArray) (most : Int) (s : ByteArray) (rest : List UInt8) (hs : s.data.toList = dg x.size ++ (x.data.toList ++ rest)) (hz : s.size ≤ 4611686018427387904) (hm : (x.size : Int) ≤ most) (p q : Nat) (w : World) (hp : Rd w p s) (hq : w.cell? ⟨q, 0, none⟩ = some (.int .i64 most)) (hqw : q < w.heap.size) :
    Calls Tryd.prog 89 #[.pointer (some ⟨p, 0, none⟩), .func (.func 90) #[] #[.pointer (some ⟨q, 0, none⟩)]] w fun e w' => e = .returned (.tuple #[.string x, .nilIface]) ∧ Below w.heap.size (w.setCell ⟨p, 0, none⟩ (.string (bs rest))) w' := by
  have hmf : ∀ (fn : Fn) (first cap : Array Value) (w : World), (Instr.makeFunc fn first cap).run Tryd.prog w = .ok (.func fn first cap) w := fun _ _ _ _ => rfl
  have hB : Below w.heap.size w (w.alloc (.cells #[.nilIface] 27)) := (Below.refl _ _).alloc (Nat.le_refl _) _
  have H := Lib.hid (str1_good x most s rest hs hz hm q (w.alloc (.cells #[.nilIface] 27)) ((hB.cell (p := ⟨q, 0, none⟩) hqw).trans hq))
  have hp1 := hp.below hB
  have hc := hp1.2.1
  have HP := Lib.hid hp
  have HP1 := Lib.hid hp1
  have HB := Lib.hid hB
  have hne : ¬ p = w.heap.size := by have := hp.1; omega
  clear hp hp1 hB hs hz hm hq hqw
  go_enter_defers Tryd.func89, Tryd.ntmps89
  go_wp2_with fail
  refine H.out.mono ?_
  rintro e w2 ⟨rfl, hb⟩
  have hp2 := HP1.out.below hb
  have hc2 := hp2.2.1
  have hf2 := hp2.2.2
  obtain ⟨n1, n2⟩ := fnew w .nilIface 27
  have hc3 : w2.cell? ⟨w.heap.size, 0, none⟩ = some .nilIface := (hb.cell (p := ⟨w.heap.size, 0, none⟩) (by simp)).trans n1
  have hf3 : w2.frozen? ⟨w.heap.size, 0, none⟩ = false := (hb.frozen (p := ⟨w.heap.size, 0, none⟩) (by simp)).trans n2
  have HB2 := Lib.hid ((HB.out.trans (hb.mono HB.out.size)))
  clear hb n1 n2 hc hp2
  have hc4 : ((w2.setCell ⟨p, 0, none⟩ (.string (bs rest))).setCell ⟨w.heap.size, 0, none⟩ .nilIface).cell? ⟨w.heap.size, 0, none⟩ = some .nilIface :=
    World.cell?_setCell_same _ _ _ ((World.cell?_setCell_other _ _ _ _ (by simp)).trans hc3)
  have HE : Hid (Below w.heap.size (w.setCell ⟨p, 0, none⟩ (.string (bs rest))) ((w2.setCell ⟨p, 0, none⟩ (.string (bs rest))).setCell ⟨w.heap.size, 0, none⟩ .nilIface)) :=
    (below_set HB2.out _ _).setCell (p := ⟨w.heap.size, 0, none⟩) (Nat.le_refl _) _
  go_wp2
  refine leaves_cons (f := 95) (args := #[.pointer (some ⟨w.heap.size, 0, none⟩)]) (by simp) (by simp [go_sem]) ?_
  refine (catchS_idle ⟨w.heap.size, 0, none⟩ _).mono ?_
  rintro e u' w'' ⟨rfl, rfl, rfl⟩
  clear hc2 hf2 hc3 hf3
  simp [Leaves, settle, results, Tryd.results89, go_sem, hc4]
  exact HE.out


set_option maxHeartbeats 1000000 in
theorem rNum_good (n : Nat) (most : Int) (s : ByteArray) (rest : List UInt8) (hs : s.data.toList = dg n ++ rest) (hz : s.size ≤ 4611686018427387904) (hn : n ≤ 4611686018427387904) (hm : (n : Int) ≤ most) (p : Nat) (w : World) (hp : Rd w p s) :
    Calls Tryd.prog 59 #[.pointer (some ⟨p, 0, none⟩), .int .i64 most] w fun e w' => e = .returned (.tuple #[.int .i64 (n : Int), .nilIface]) ∧ Below w.heap.size (w.setCell ⟨p, 0, none⟩ (.string (bs rest))) w' := by
  have hmf : ∀ (fn : Fn) (first cap : Array Value) (w : World), (Instr.makeFunc fn first cap).run Tryd.prog w = .ok (.func fn first cap) w := fun _ _ _ _ => rfl
  have hB : Below w.heap.size w (w.alloc (.cells #[.int .i64 most] 3)) := (Below.refl _ _).alloc (Nat.le_refl _) _
  have H := Lib.hid (takeI_good n most s rest hs hz hn hm p w.heap.size (w.alloc (.cells #[.int .i64 most] 3)) (hp.below hB) (fnew w (.int .i64 most) 3).1 (by simp))
  have HB := Lib.hid hB
  clear hB hs hz hn hm hp
  go_enter Tryd.func59, Tryd.ntmps59
  go_wp2_with fail
  refine H.out.mono ?_
  rintro e w2 ⟨rfl, hb⟩
  have HE : Hid (Below w.heap.size (w.setCell ⟨p, 0, none⟩ (.string (bs rest))) w2) := (below_set HB.out _ _).trans (hb.mono (by simp))
  clear hb
  go_wp2
  go_ret2
  exact ⟨rfl, HE.out⟩

set_option maxHeartbeats 1000000 in
theorem rStr_good (x : ByteArray) (most : Int) (s : ByteArray) (rest : List UInt8) (hs : s.data.toList = dg x.size ++ (x.data.toList ++ rest)) (hz : s.size ≤ 4611686018427387904) (hm : (x.size : Int) ≤ most) (p : Nat) (w : World) (hp : Rd w p s) :
    Calls Tryd.prog 86 #[.pointer (some ⟨p, 0, none⟩), .int .i64 most] w fun e w' => e = .returned (.tuple #[.string x, .nilIface]) ∧ Below w.heap.size (w.setCell ⟨p, 0, none⟩ (.string (bs rest))) w' := by
  have hmf : ∀ (fn : Fn) (first cap : Array Value) (w : World), (Instr.makeFunc fn first cap).run Tryd.prog w = .ok (.func fn first cap) w := fun _ _ _ _ => rfl
  have hB : Below w.heap.size w (w.alloc (.cells #[.int .i64 most] 3)) := (Below.refl _ _).alloc (Nat.le_refl _) _
  have H := Lib.hid (takeS_good x most s rest hs hz hm p w.heap.size (w.alloc (.cells #[.int .i64 most] 3)) (hp.below hB) (fnew w (.int .i64 most) 3).1 (by simp))
  have HB := Lib.hid hB
  clear hB hs hz hm hp
  go_enter Tryd.func86, Tryd.ntmps86
  go_wp2_with fail
  refine H.out.mono ?_
  rintro e w2 ⟨rfl, hb⟩
  have HE : Hid (Below w.heap.size (w.setCell ⟨p, 0, none⟩ (.string (bs rest))) w2) := (below_set HB.out _ _).trans (hb.mono (by simp))
  clear hb
  go_wp2
  go_ret2
  exact ⟨rfl, HE.out⟩

set_option maxHeartbeats 1000000 in
theorem left_any (s : ByteArray) (p : Nat) (w : World) (hp : Rd w p s) :
    Calls Tryd.prog 37 #[.pointer (some ⟨p, 0, none⟩)] w fun e w' => e = .returned (.int .i64 (s.size : Int)) ∧ w = w' := by
  have hc := hp.2.1
  clear hp
  go_enter Tryd.func37, Tryd.ntmps37
  go_wp2
  go_ret
  exact ⟨rfl, rfl⟩

set_option maxHeartbeats 1000000 in
theorem new_any (s : ByteArray) (w : World) :
    Calls Tryd.prog 35 #[.string s] w fun e w' => e = .returned (.pointer (some ⟨w.heap.size, 0, none⟩)) ∧ Rd w' w.heap.size s ∧ Below w.heap.size w w' := by
  have HR : Hid (Rd (w.alloc (.cells #[.string s] 92)) w.heap.size s) := ⟨by simp, (fnew w (.string s) 92).1, (fnew w (.string s) 92).2⟩
  go_enter Tryd.func35, Tryd.ntmps35
  go_wp2
  go_ret
  exact ⟨rfl, HR.out, (Below.refl _ _).alloc (Nat.le_refl _) _⟩

/-- A text's bytes. -/
def strB (s : ByteArray) : ByteArray := numB s.size ++ s
theorem strB_list (s : ByteArray) : (strB s).data.toList = dg s.size ++ s.data.toList := by
  unfold strB
  rw [ByteArray.data_append, Array.toList_append, numB_list]
theorem strB_size (s : ByteArray) : (strB s).size = (dg s.size).length + s.size := by
  rw [Lib.size_eq, strB_list, List.length_append, Lib.size_eq s]

set_option maxHeartbeats 1000000 in
theorem str_any (s : ByteArray) (hz : s.size ≤ 4611686018427387904) (w : World) :
    Calls Tryd.prog 52 #[.string s] w fun e w' => e = .returned (.string (strB s)) ∧ Below w.heap.size w w' := by
  have h9 := numB_size_nine hz
  have hsum : ¬ 9223372036854775807 < (numB s.size).size + s.size := by omega
  have HZ := Lib.hid hz
  clear hz
  go_enter Tryd.func52, Tryd.ntmps52
  go_wp2_with fail
  refine (num_any s.size HZ.out _).mono ?_
  rintro e w2 ⟨rfl, hb⟩
  have HB := Lib.hid hb
  clear hb
  go_wp2
  go_ret
  exact ⟨rfl, HB.out⟩
end Go.Proofs.YtflomllfehoedaaDoor

namespace Go.Proofs.YtflomllfehoedaaDoor
open Go.RowKit

attribute [local go_sem ↓] old_ldi old_lds
attribute [local go_sem] oldC_forall isC1_ptr isS1_ptr c1V_ptr
set_option maxRecDepth 10000 in
set_option maxHeartbeats 1000000 in
theorem right8 (p : ByteArray) (k : Int) (d : ByteArray) (hz : p.size ≤ maxLen) (w : World) : Calls Tryd.prog 32 #[entV p k d] w fun e w' => e = .returned (.bool (rightE p k d)) ∧ Below w.heap.size w w' := by
  have hb0 : Below w.heap.size w (w.alloc (.cells #[.string p, .int .i64 k, .string d] 38)) := (Below.refl _ _).alloc (Nat.le_refl _) _
  have r0 := enAt_new w p k d
  obtain ⟨W, hW⟩ : ∃ W, w.alloc (.cells #[.string p, .int .i64 k, .string d] 38) = W := ⟨_, rfl⟩
  rw [hW] at hb0 r0
  have c0 := r0.c0
  have HB0 := Lib.hid hb0
  have HR0 := Lib.hid r0
  have HZ := Lib.hid hz
  obtain ⟨n, hn⟩ : ∃ n, dp p.data.toList = n := ⟨_, rfl⟩
  have HN := Lib.hid hn
  have hrE : rightE p k d = (decide (1 ≤ n) && (((k == 1) && decide (d.size ≤ 256)) || (decide (2 ≤ k ∧ k ≤ 4) && decide (d.size = 0)))) := by unfold rightE; rw [hn]
  have HRE := Lib.hid hrE
  clear hb0 r0 hz hn hrE
  have hde : d.size = 0 → d = ByteArray.empty := fun h => ByteArray.size_eq_zero_iff.1 h
  have called : (((k == 1) = true ∧ (d.size : Int) ≤ 256) ∨ ((k == 1) = false ∧ (k == 2) = true ∧ d = ByteArray.empty) ∨ ((k == 1) = false ∧ (k == 2) = false ∧ (k == 3) = true ∧ d = ByteArray.empty) ∨ ((k == 1) = false ∧ (k == 2) = false ∧ (k == 3) = false ∧ (k == 4) = true ∧ d = ByteArray.empty)) ∧ rightE p k d = decide (0 < n) ∨ (((k == 1) = true ∧ ¬ (d.size : Int) ≤ 256) ∨ ((k == 1) = false ∧ (k == 2) = true ∧ ¬ d = ByteArray.empty) ∨ ((k == 1) = false ∧ (k == 2) = false ∧ (k == 3) = true ∧ ¬ d = ByteArray.empty) ∨ ((k == 1) = false ∧ (k == 2) = false ∧ (k == 3) = false ∧ (k == 4) = true ∧ ¬ d = ByteArray.empty) ∨ ((k == 1) = false ∧ (k == 2) = false ∧ (k == 3) = false ∧ (k == 4) = false)) ∧ rightE p k d = false := by
    rw [HRE.out]
    by_cases e1 : k = 1
    · subst e1
      by_cases h : d.size ≤ 256
      · exact .inl ⟨.inl ⟨rfl, by omega⟩, by simp [h]; omega⟩
      · exact .inr ⟨.inl ⟨rfl, by omega⟩, by simp [h]⟩
    · by_cases e2 : k = 2
      · subst e2
        by_cases h : d.size = 0
        · exact .inl ⟨.inr (.inl ⟨rfl, rfl, hde h⟩), by simp [h]; omega⟩
        · exact .inr ⟨.inr (.inl ⟨rfl, rfl, fun e => h (by rw [e]; rfl)⟩), by simp [h]⟩
      · by_cases e3 : k = 3
        · subst e3
          by_cases h : d.size = 0
          · exact .inl ⟨.inr (.inr (.inl ⟨rfl, rfl, rfl, hde h⟩)), by simp [h]; omega⟩
          · exact .inr ⟨.inr (.inr (.inl ⟨rfl, rfl, rfl, fun e => h (by rw [e]; rfl)⟩)), by simp [h]⟩
        · by_cases e4 : k = 4
          · subst e4
            by_cases h : d.size = 0
            · exact .inl ⟨.inr (.inr (.inr ⟨rfl, rfl, rfl, rfl, hde h⟩)), by simp [h]; omega⟩
            · exact .inr ⟨.inr (.inr (.inr (.inl ⟨rfl, rfl, rfl, rfl, fun e => h (by rw [e]; rfl)⟩))), by simp [h]⟩
          · refine .inr ⟨.inr (.inr (.inr (.inr ⟨beq_eq_false_iff_ne.2 e1, beq_eq_false_iff_ne.2 e2, beq_eq_false_iff_ne.2 e3, beq_eq_false_iff_ne.2 e4⟩))), ?_⟩
            rw [beq_eq_false_iff_ne.2 e1, decide_eq_false (show ¬ (2 ≤ k ∧ k ≤ 4) by omega)]
            simp
  clear hde
  have c1 := HR0.out.c1
  have c2 := HR0.out.c2
  rcases called with ⟨h, hv⟩ | ⟨h, hv⟩
  · have HV := Lib.hid hv
    clear hv HRE
    rcases h with ⟨g1, g5⟩ | ⟨g1, g2, rfl⟩ | ⟨g1, g2, g3, rfl⟩ | ⟨g1, g2, g3, g4, rfl⟩
    all_goals
      go_enter Tryd.func32, Tryd.ntmps32
      go_wp2_with fail
      refine (deep_any p (by have := HZ.out; unfold maxLen at this; omega) _).mono ?_
      rintro e w1 ⟨rfl, hb1⟩
      rw [HN.out]
      have HB1 := Lib.hid (HB0.out.trans (hb1.mono HB0.out.size))
      clear hb1
      go_wp2
      go_ret
      exact ⟨by rw [HV.out]; first | rfl | (simp; done) | (simp; omega), HB1.out⟩
  · have HV := Lib.hid hv
    clear hv HRE
    rcases h with ⟨g1, g5⟩ | ⟨g1, g2, g5⟩ | ⟨g1, g2, g3, g5⟩ | ⟨g1, g2, g3, g4, g5⟩ | ⟨g1, g2, g3, g4⟩
    all_goals
      go_enter Tryd.func32, Tryd.ntmps32
      go_wp2
      go_ret
      exact ⟨by rw [HV.out]; rfl, HB0.out⟩
theorem less8 (p q d f : ByteArray) (k m : Int) (w : World) : Calls Tryd.prog 33 #[entV p k d, entV q m f] w fun e w' => e = .returned (.bool (Op.bytesLess p.data.toList q.data.toList)) ∧ Below w.heap.size w w' := by
  go_enter Tryd.func33, Tryd.ntmps33
  go_wp2
  go_ret
  exact ⟨by simp [Lib.toList_data], ((Below.refl _ _).alloc (Nat.le_refl _) _).alloc (by simp) _⟩
theorem holds8 (p d : ByteArray) (k : Int) (w : World) : Calls Tryd.prog 58 #[entV p k d] w fun e w' => e = .returned (.bool (k == 2 || k == 4)) ∧ Below w.heap.size w w' := by
  by_cases h2 : k = 2
  · have g : (k == 2) = true := by rw [h2]; rfl
    rw [g, Bool.true_or]
    clear h2
    go_enter Tryd.func58, Tryd.ntmps58
    go_wp2
    go_ret
    exact ⟨by simp, (Below.refl _ _).alloc (Nat.le_refl _) _⟩
  · have g : (k == 2) = false := beq_eq_false_iff_ne.2 h2
    rw [g, Bool.false_or]
    clear h2
    go_enter Tryd.func58, Tryd.ntmps58
    go_wp2
    go_ret
    exact ⟨by simp, (Below.refl _ _).alloc (Nat.le_refl _) _⟩
end Go.Proofs.YtflomllfehoedaaDoor

namespace Go.Proofs.YtflomllfehoedaaDoor
open Go.RowKit

theorem par9_root {p : List UInt8} (h : isP p) (h1 : p ≠ [47]) : par9 p = [47] ↔ dp p = 1 := by
  obtain ⟨ms, x, a1, _, a3, _, a5⟩ := par9_parts h h1
  rw [a5, dp_pos h, a3, ← pcs_nil (isP_pth a1), pcs_pth a1.2, List.length_append, ← List.length_eq_zero_iff]
  simp only [List.length_singleton]
  omega
theorem inD_fnd {l : List Ent} (hA : Asc l) {e : Ent} (hne : par9 (pl e) ≠ [47]) : decide (inD l e) = (match fnd l (par9 (pl e)) with
    | some d => hd d
    | none => false) := by
  cases hf : fnd l (par9 (pl e)) with
  | none =>
    refine decide_eq_false ?_
    rintro (h | ⟨d, h1, h2, _⟩)
    · exact hne h
    · exact fnd_none.1 hf d h1 h2
  | some d =>
    obtain ⟨h1, h2⟩ := (fnd_some hA).1 hf
    show _ = hd d
    cases hd' : hd d with
    | true => exact decide_eq_true (.inr ⟨d, h1, h2, hd'⟩)
    | false =>
      refine decide_eq_false ?_
      rintro (h | ⟨x, h3, h4, h5⟩)
      · exact hne h
      · obtain rfl := asc_inj hA h1 h3 (h2.trans h4.symm)
        rw [hd'] at h5
        cases h5
set_option maxRecDepth 10000 in
set_option maxHeartbeats 2000000 in
theorem housed9 (l : List Ent) (a : Option Addr) (cap : Nat) (e : Ent) (w : World) (h : Ents w a cap l) (hA : Asc l) (hl : l.length ≤ 1000) (he : rE e = true) :
    Calls Tryd.prog 34 #[.slice a l.length cap, enV e] w fun r w' => r = .returned (.bool (decide (inD l e))) ∧ Below w.heap.size w w' := by
  obtain ⟨hP, hne⟩ := rE_isP he
  have h54 := isP_len hP
  rw [← Lib.size_eq] at h54
  obtain ⟨W, hW⟩ : ∃ W, w.alloc (.cells #[.string e.1, .int .i64 e.2.1, .string e.2.2] 38) = W := ⟨_, rfl⟩
  obtain ⟨N, hN⟩ : ∃ N, w.heap.size = N := ⟨_, rfl⟩
  have hb0 : Below w.heap.size w W := by rw [← hW]; exact (Below.refl _ _).alloc (Nat.le_refl _) _
  have HB0 := Lib.hid hb0
  have r0 : EnAt W N e.1 e.2.1 e.2.2 := by rw [← hW, ← hN]; exact enAt_new _ _ _ _
  have c0 := r0.c0
  have HR0 := Lib.hid r0
  have HE := Lib.hid (RowN.below h hb0)
  have HA := Lib.hid hA
  have HL := Lib.hid hl
  have HZ := Lib.hid (show e.1.size ≤ 9223372036854775807 by omega)
  have HP := Lib.hid hP
  have HNE := Lib.hid hne
  have HPR := Lib.hid (par9_root hP hne)
  obtain ⟨ms, y, m1, m2, m3, m4, m5⟩ := par9_parts hP hne
  have HPG := Lib.hid (parent_good e.1 ms y hP m2 m4 hne)
  have HM5 := Lib.hid m5
  obtain ⟨n, hn⟩ : ∃ n, dp (pl e) = n := ⟨_, rfl⟩
  rw [hn] at HPR
  have HN := Lib.hid hn
  clear h hA hl he hP hne h54 hb0 r0 m1 m2 m3 m4 m5 hn
  by_cases h1 : n = 1
  · have g1 : (n == 1) = true := by rw [h1]; rfl
    have HV := Lib.hid (show decide (inD l e) = true from decide_eq_true (.inl (HPR.out.2 h1)))
    clear h1
    go_enter Tryd.func34, Tryd.ntmps34
    go_wp2_with fail
    refine (deep_any e.1 HZ.out _).mono ?_
    rintro r w1 ⟨rfl, hb⟩
    rw [HN.out]
    have HB1 := Lib.hid (HB0.out.trans (hb.mono HB0.out.size))
    clear hb
    go_wp2
    go_ret
    exact ⟨by rw [HV.out]; rfl, HB1.out⟩
  · have g1 : (n == 1) = false := beq_eq_false_iff_ne.2 h1
    have HV := Lib.hid (inD_fnd (e := e) HA.out (fun h => h1 (HPR.out.1 h)))
    clear h1
    go_enter Tryd.func34, Tryd.ntmps34
    go_wp2_with fail
    refine (deep_any e.1 HZ.out _).mono ?_
    rintro r w1 ⟨rfl, hb⟩
    rw [HN.out]
    have HB1 := Lib.hid (HB0.out.trans (hb.mono HB0.out.size))
    have HE1 := Lib.hid (RowN.below HE.out hb)
    have HR1 := Lib.hid (HR0.out.below hb)
    clear hb c0
    have c0 := HR1.out.c0
    go_wp2_with fail
    refine (HPG.out _).mono ?_
    rintro r w2 ⟨d, z, rfl, hd1, _, hb⟩
    have HB2 := Lib.hid (HB1.out.trans (hb.mono HB1.out.size))
    have HE2 := Lib.hid (RowN.below HE1.out hb)
    have HD := Lib.hid (hd1.trans HM5.out.symm)
    clear hb hd1 c0
    go_wp2_with fail
    refine (place9 l a cap d _ HE2.out HA.out HL.out).mono ?_
    rintro r w3 ⟨rfl, hb⟩
    rw [HD.out]
    have HB3 := Lib.hid (HB2.out.trans (hb.mono HB2.out.size))
    have HE3 := Lib.hid (RowN.below HE2.out hb)
    clear hb
    cases hf : fnd l (par9 (pl e)) with
    | none =>
      rw [hf] at HV
      rw [show (none : Option Ent).isSome = false from rfl]
      clear hf
      go_wp2
      go_ret
      exact ⟨by rw [HV.out]; rfl, HB3.out⟩
    | some x =>
      rw [hf] at HV
      rw [show (some x).isSome = true from rfl]
      obtain ⟨hk, hx, _⟩ := plc_some HA.out hf
      obtain ⟨K, hK⟩ : ∃ K, plc l (par9 (pl e)) = K := ⟨_, rfl⟩
      simp only [hK] at hk hx
      rw [hK]
      obtain ⟨b, off, rfl, _, hc⟩ := Ents.at HE3.out (Below.refl _ _) hk
      rw [hx] at hc
      have c0 := hc.c0
      have c1 := hc.c1
      have c2 := hc.c2
      have hk' : (K : Int) < (l.length : Int) := by omega
      clear hf hK hx hc
      go_wp2_with fail
      refine (holds8 x.1 x.2.2 x.2.1 _).mono ?_
      rintro r w4 ⟨rfl, hb⟩
      have HB4 := Lib.hid (HB3.out.trans (hb.mono HB3.out.size))
      have HV2 := Lib.hid (show decide (inD l e) = (x.2.1 == 2 || x.2.1 == 4) from HV.out)
      obtain ⟨q, hq⟩ : ∃ q, (x.2.1 == 2 || x.2.1 == 4) = q := ⟨_, rfl⟩
      rw [hq] at HV2 ⊢
      clear hb hq HV
      go_wp2
      go_ret
      exact ⟨by rw [HV2.out]; rfl, HB4.out⟩
end Go.Proofs.YtflomllfehoedaaDoor
