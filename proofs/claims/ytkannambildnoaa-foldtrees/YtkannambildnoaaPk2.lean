/-
  Layers as lists of entries: the order of paths, what a right layer is, one entry more at its end, an entry put and dropped, what lies under a path. No condition.
  A layer laid over a tree, told by lists: what is there then, entry by entry; what comes is a tree; twice is as once; a stack. No condition.
  The contract of the document's own Under of two paths (package shaleref10). Condition: the texts' sizes fit.
  A slice in memory whose elements are of C cells each: what it holds, said by a list; it stays while what is written lies above it. No condition.
  A slice in memory whose elements are of one cell each: what it holds, said by a list; it stays while what is written lies above it. No condition.
  append(s, t...) where s is a slice that the call made itself and t any slice that lies in memory, nil among them: what is made holds both. No condition but that it fits.
  A region that draws its order, all of whose operations and callees leave what was there as it was (they may make new blocks): one walk, in the order of the text, serves every order. No condition.
  Loads of one cell (an int, a uint32, a string) in a region that leaves what was there as it was (OldQ): rules for the walk. No condition.
  An entry in memory (api.Entry, three cells): its loads and stores. No condition.
  A slice of entries (api.Entry) in memory, and one that a call made itself, told by a list: an element's cells, append. No condition but that it fits.
  Two entries compared: rules for the walk (plain, in a region that reads, in one that leaves what was there as it was). No condition.
  Loads of an entry (three cells, a variable's or a slice's element) in a region that leaves what was there as it was (OldQ): a rule for the walk. No condition.
  Contracts of the document's own Join of names (package shaleref03) and Parent of a path (package shaleref09). Conditions: six names at most, each of eight bytes at most; a path that is not the root's.
  The contract of the document's own Less of two texts (package shaleref08), byte by byte; of Go's own order of texts. Condition: the texts' sizes fit.
-/
import Derived.Test.YtkannambildnoaaPk1
import Derived.Lib.Hide
import Derived.IntWalk
import Derived.WalkKit
import Derived.OpenShut
import Derived.Deep.Slices
import Derived.Deep.MidRow
import Derived.WideShapes
import Derived.Laws.AppendOwn
import Derived.Deep.AppendSrc
import Derived.Deep.QuietTactic
import Derived.BigQuiet
import Derived.Test.YtkannambildnoaaProg
import Derived.Laws.StructEq
import Derived.Deep.LoopGhost
namespace Go.Proofs.Ytkannambildnoaa
open Go.RowKit

/-- Is a text less, byte by byte? -/
def lt8 (a b : List UInt8) : Bool := Op.bytesLess a b
theorem lt8_irr : ∀ a : List UInt8, lt8 a a = false
  | [] => rfl
  | c :: x => by
    have := lt8_irr x
    show (decide (c < c) || (c == c && Op.bytesLess x x)) = false
    rw [show Op.bytesLess x x = false from this]
    simp
theorem lt8_cons (c d : UInt8) (x y : List UInt8) : lt8 (c :: x) (d :: y) = (decide (c < d) || (c == d && lt8 x y)) := rfl
theorem lt8_trans : ∀ {a b c : List UInt8}, lt8 a b = true → lt8 b c = true → lt8 a c = true
  | [], [], _, h, _ => by cases h
  | [], _ :: _, [], _, h => by cases h
  | [], _ :: _, _ :: _, _, _ => rfl
  | _ :: _, [], _, h, _ => by cases h
  | _ :: _, _ :: _, [], _, h => by cases h
  | p :: x, q :: y, r :: z, h1, h2 => by
    rw [lt8_cons, Bool.or_eq_true, Bool.and_eq_true, decide_eq_true_iff, beq_iff_eq, UInt8.lt_iff_toNat_lt] at *
    rcases h1 with h1 | ⟨rfl, h1⟩
    · rcases h2 with h2 | ⟨rfl, h2⟩
      · exact .inl (by omega)
      · exact .inl h1
    · rcases h2 with h2 | ⟨rfl, h2⟩
      · exact .inl h2
      · exact .inr ⟨rfl, lt8_trans h1 h2⟩
theorem lt8_tri : ∀ a b : List UInt8, a = b ∨ lt8 a b = true ∨ lt8 b a = true
  | [], [] => .inl rfl
  | [], _ :: _ => .inr (.inl rfl)
  | _ :: _, [] => .inr (.inr rfl)
  | p :: x, q :: y => by
    rw [lt8_cons, lt8_cons, Bool.or_eq_true, Bool.and_eq_true, decide_eq_true_iff, beq_iff_eq, Bool.or_eq_true, Bool.and_eq_true, decide_eq_true_iff, beq_iff_eq, UInt8.lt_iff_toNat_lt, UInt8.lt_iff_toNat_lt]
    by_cases h : p = q
    · subst h
      rcases lt8_tri x y with rfl | h | h
      · exact .inl rfl
      · exact .inr (.inl (.inr ⟨rfl, h⟩))
      · exact .inr (.inr (.inr ⟨rfl, h⟩))
    · have : p.toNat ≠ q.toNat := fun e => h (UInt8.toNat_inj.1 e)
      rcases Nat.lt_or_gt_of_ne this with h | h
      · exact .inr (.inl (.inl h))
      · exact .inr (.inr (.inl h))
theorem lt8_asymm {a b : List UInt8} (h : lt8 a b = true) : lt8 b a = false := by
  cases h2 : lt8 b a with
  | false => rfl
  | true => have := lt8_trans h h2; rw [lt8_irr] at this; cases this
theorem lt8_ne {a b : List UInt8} (h : lt8 a b = true) : a ≠ b := fun e => by rw [e, lt8_irr] at h; cases h
theorem lt8_prefix : ∀ {a b : List UInt8}, a <+: b → a.length < b.length → lt8 a b = true
  | [], [], _, h => by simp at h
  | [], _ :: _, _, _ => rfl
  | c :: x, [], h, _ => by simp at h
  | c :: x, d :: y, h, hl => by
    obtain ⟨rfl, h2⟩ := List.cons_prefix_cons.1 h
    have := lt8_prefix h2 (by simpa using hl)
    rw [lt8_cons, this]
    simp
/-- An entry: path, kind, data. -/
abbrev Ent := ByteArray × Int × ByteArray
/-- Its path's bytes. -/
abbrev pl (e : Ent) : List UInt8 := e.1.data.toList
def rE (e : Ent) : Bool := rightE e.1 e.2.1 e.2.2
/-- A directory. -/
def hd (e : Ent) : Bool := e.2.1 == 2 || e.2.1 == 4
/-- A path's directory. -/
def par9 (p : List UInt8) : List UInt8 := pth (pcs p).dropLast
/-- An entry that lies in the root, or whose directory is there. -/
def inD (l : List Ent) (e : Ent) : Prop := par9 (pl e) = [47] ∨ ∃ d ∈ l, pl d = par9 (pl e) ∧ hd d = true
instance (l : List Ent) (e : Ent) : Decidable (inD l e) := inferInstanceAs (Decidable (_ ∨ _))
abbrev Asc (l : List Ent) : Prop := l.Pairwise fun a b => lt8 (pl a) (pl b) = true
/-- A right layer, but for its size. -/
def RL (l : List Ent) : Prop := (∀ e ∈ l, rE e = true) ∧ Asc l ∧ ∀ e ∈ l, inD l e
instance (l : List Ent) : Decidable (RL l) := inferInstanceAs (Decidable (_ ∧ _))
/-- A right layer. -/
def RightL (l : List Ent) : Prop := l.length ≤ 64 ∧ RL l
instance (l : List Ent) : Decidable (RightL l) := inferInstanceAs (Decidable (_ ∧ _))

theorem rE_isP {e : Ent} (h : rE e = true) : isP (pl e) ∧ pl e ≠ [47] := by
  obtain ⟨h1, _⟩ := rightE_parts h
  have hp := isP_of_dp h1
  refine ⟨hp, fun e0 => ?_⟩
  rw [dp_pos hp, (pcs_nil hp).2 e0] at h1
  simp at h1
theorem par9_parts {p : List UInt8} (h : isP p) (h1 : p ≠ [47]) : ∃ ms x, good ms ∧ nm x = true ∧ pcs p = ms ++ [x] ∧ p = jn ms ++ 47 :: x ∧ par9 p = pth ms := by
  obtain ⟨ms, x, a1, a2, a3, a4⟩ := par h h1
  exact ⟨ms, x, a1, a2, a3, a4, by unfold par9; rw [a3, List.dropLast_concat]⟩
theorem und_par9 {p q : List UInt8} (h : isP p) (h1 : p ≠ [47]) : und p q = (decide (q = par9 p) || und (par9 p) q) := by
  obtain ⟨ms, x, a1, _, a3, _, a5⟩ := par9_parts h h1
  rw [a5]
  exact und_parent h a1 a3
theorem par9_lt {p : List UInt8} (h : isP p) (h1 : p ≠ [47]) : lt8 (par9 p) p = true := by
  have h2 := und_par9 (q := par9 p) h h1
  rw [decide_eq_true rfl, Bool.true_or] at h2
  obtain ⟨h3, h4⟩ := und_longer h2
  exact lt8_prefix h3 h4
theorem und_lt {p q : List UInt8} (h : und p q = true) : lt8 q p = true := by
  obtain ⟨h3, h4⟩ := und_longer h
  exact lt8_prefix h3 h4

theorem rl_nil : RL [] := ⟨by simp, List.Pairwise.nil, by simp⟩
theorem asc_snoc {l : List Ent} {e : Ent} : Asc (l ++ [e]) ↔ Asc l ∧ ∀ a ∈ l, lt8 (pl a) (pl e) = true := by
  unfold Asc
  rw [List.pairwise_append]
  simp
theorem asc_last {l : List Ent} {e : Ent} (h : Asc l) : (∀ a ∈ l, lt8 (pl a) (pl e) = true) ↔ ∀ a, l.getLast? = some a → lt8 (pl a) (pl e) = true := by
  constructor
  · intro h2 a ha
    exact h2 a (List.mem_of_getLast? ha)
  · intro h2 a ha
    rcases List.eq_nil_or_concat l with rfl | ⟨r, b, rfl⟩
    · cases ha
    · have hb := h2 b (by simp)
      rw [List.concat_eq_append] at *
      rcases List.mem_append.1 ha with h3 | h3
      · exact lt8_trans ((asc_snoc.1 h).2 a h3) hb
      · obtain rfl : a = b := by simpa using h3
        exact hb
theorem rl_snoc {l : List Ent} {e : Ent} : RL (l ++ [e]) ↔ RL l ∧ rE e = true ∧ (∀ a, l.getLast? = some a → lt8 (pl a) (pl e) = true) ∧ inD l e := by
  constructor
  · rintro ⟨h1, h2, h3⟩
    obtain ⟨h4, h5⟩ := asc_snoc.1 h2
    have he := h1 e (by simp)
    obtain ⟨p1, p2⟩ := rE_isP he
    refine ⟨⟨fun x hx => h1 x (by simp [hx]), h4, fun x hx => ?_⟩, he, (asc_last h4).1 h5, ?_⟩
    · refine (h3 x (by simp [hx])).imp_right ?_
      rintro ⟨d, hd1, hd2, hd3⟩
      rcases List.mem_append.1 hd1 with h | h
      · exact ⟨d, h, hd2, hd3⟩
      · obtain rfl : d = e := by simpa using h
        obtain ⟨q1, q2⟩ := rE_isP (h1 x (by simp [hx]))
        have a1 := par9_lt q1 q2
        rw [← hd2] at a1
        have a2 := lt8_trans a1 (h5 x hx)
        rw [lt8_irr] at a2
        cases a2
    · refine (h3 e (by simp)).imp_right ?_
      rintro ⟨d, hd1, hd2, hd3⟩
      rcases List.mem_append.1 hd1 with h | h
      · exact ⟨d, h, hd2, hd3⟩
      · obtain rfl : d = e := by simpa using h
        have a1 := par9_lt p1 p2
        rw [← hd2, lt8_irr] at a1
        cases a1
  · rintro ⟨⟨h1, h2, h3⟩, h4, h5, h6⟩
    refine ⟨fun x hx => ?_, asc_snoc.2 ⟨h2, (asc_last h2).2 h5⟩, fun x hx => ?_⟩
    · rcases List.mem_append.1 hx with h | h
      · exact h1 x h
      · obtain rfl : x = e := by simpa using h
        exact h4
    · rcases List.mem_append.1 hx with h | h
      · exact (h3 x h).imp_right fun ⟨d, a, b⟩ => ⟨d, by simp [a], b⟩
      · obtain rfl : x = e := by simpa using h
        exact h6.imp_right fun ⟨d, a, b⟩ => ⟨d, by simp [a], b⟩
theorem rl_take {l : List Ent} (h : RL l) (n : Nat) : RL (l.take n) := by
  have key : ∀ k (m : List Ent), m.length = k → ∀ n, RL m → RL (m.take n) := by
    intro k
    induction k with
    | zero => intro m hm n h; rw [List.length_eq_zero_iff.1 hm]; simpa using rl_nil
    | succ k ih =>
      intro m hm n h
      rcases List.eq_nil_or_concat m with rfl | ⟨r, b, rfl⟩
      · simpa using rl_nil
      · rw [List.concat_eq_append] at *
        simp at hm
        by_cases hn : n ≤ r.length
        · rw [List.take_append_of_le_length hn]
          exact ih r hm n (rl_snoc.1 h).1
        · rw [List.take_of_length_le (by simp; omega)]
          exact h
  exact key _ l rfl n h
theorem asc_inj {l : List Ent} (h : Asc l) {a b : Ent} (ha : a ∈ l) (hb : b ∈ l) (e : pl a = pl b) : a = b := by
  induction l with
  | nil => cases ha
  | cons x r ih =>
    obtain ⟨h1, h2⟩ := List.pairwise_cons.1 h
    rcases List.mem_cons.1 ha with e1 | ha'
    · rcases List.mem_cons.1 hb with e2 | hb'
      · rw [e1, e2]
      · have := h1 b hb'; rw [← e1, e, lt8_irr] at this; cases this
    · rcases List.mem_cons.1 hb with e2 | hb'
      · have := h1 a ha'; rw [← e2, e, lt8_irr] at this; cases this
      · exact ih h2 ha' hb'

/-- The entry at a path. -/
def fnd (l : List Ent) (p : List UInt8) : Option Ent := l.find? fun e => decide (pl e = p)
theorem fnd_some {l : List Ent} (h : Asc l) {p : List UInt8} {e : Ent} : fnd l p = some e ↔ e ∈ l ∧ pl e = p := by
  unfold fnd
  constructor
  · intro he
    have h1 := List.find?_some he
    exact ⟨List.mem_of_find?_eq_some he, by simpa using h1⟩
  · rintro ⟨h1, h2⟩
    cases hf : l.find? fun e => decide (pl e = p) with
    | none =>
      have := List.find?_eq_none.1 hf e h1
      simp [h2] at this
    | some x =>
      have h3 := List.find?_some hf
      have h4 : pl x = p := by simpa using h3
      rw [asc_inj h (List.mem_of_find?_eq_some hf) h1 (h4.trans h2.symm)]
theorem fnd_none {l : List Ent} {p : List UInt8} : fnd l p = none ↔ ∀ e ∈ l, pl e ≠ p := by
  unfold fnd
  rw [List.find?_eq_none]
  simp

/-- Entries with one, instead of that at its path. -/
def wth (l : List Ent) (e : Ent) : List Ent := l.filter (fun a => lt8 (pl a) (pl e)) ++ e :: l.filter (fun a => lt8 (pl e) (pl a))
/-- Entries without that at a path. -/
def wout (l : List Ent) (p : List UInt8) : List Ent := l.filter fun a => decide (pl a ≠ p)
theorem mem_wth {l : List Ent} {e x : Ent} : x ∈ wth l e ↔ x = e ∨ x ∈ l ∧ pl x ≠ pl e := by
  unfold wth
  rw [List.mem_append, List.mem_cons, List.mem_filter, List.mem_filter]
  constructor
  · rintro (⟨h1, h2⟩ | rfl | ⟨h1, h2⟩)
    · exact .inr ⟨h1, lt8_ne h2⟩
    · exact .inl rfl
    · exact .inr ⟨h1, (lt8_ne h2).symm⟩
  · rintro (rfl | ⟨h1, h2⟩)
    · exact .inr (.inl rfl)
    · rcases lt8_tri (pl x) (pl e) with h | h | h
      · exact absurd h h2
      · exact .inl ⟨h1, h⟩
      · exact .inr (.inr ⟨h1, h⟩)
theorem asc_wth {l : List Ent} (h : Asc l) (e : Ent) : Asc (wth l e) := by
  unfold wth Asc
  rw [List.pairwise_append, List.pairwise_cons]
  refine ⟨h.filter _, ⟨fun x hx => by simpa using (List.mem_filter.1 hx).2, h.filter _⟩, fun a ha b hb => ?_⟩
  have h1 : lt8 (pl a) (pl e) = true := by simpa using (List.mem_filter.1 ha).2
  rcases List.mem_cons.1 hb with rfl | hb
  · exact h1
  · exact lt8_trans h1 (by simpa using (List.mem_filter.1 hb).2)
theorem asc_ext : ∀ {a b : List Ent}, Asc a → Asc b → (∀ x, x ∈ a ↔ x ∈ b) → a = b
  | [], [], _, _, _ => rfl
  | [], y :: s, _, _, h => absurd ((h y).2 List.mem_cons_self) (by simp)
  | x :: r, [], _, _, h => absurd ((h x).1 List.mem_cons_self) (by simp)
  | x :: r, y :: s, ha, hb, h => by
    obtain ⟨a1, a2⟩ := List.pairwise_cons.1 ha
    obtain ⟨b1, b2⟩ := List.pairwise_cons.1 hb
    have hxy : x = y := by
      rcases List.mem_cons.1 ((h x).1 List.mem_cons_self) with e | e
      · exact e
      · rcases List.mem_cons.1 ((h y).2 List.mem_cons_self) with e2 | e2
        · exact e2.symm
        · have := lt8_trans (b1 x e) (a1 y e2)
          rw [lt8_irr] at this
          cases this
    subst hxy
    rw [asc_ext a2 b2 fun z => ?_]
    constructor
    · intro hz
      rcases List.mem_cons.1 ((h z).1 (List.mem_cons_of_mem _ hz)) with rfl | e
      · have := a1 z hz; rw [lt8_irr] at this; cases this
      · exact e
    · intro hz
      rcases List.mem_cons.1 ((h z).2 (List.mem_cons_of_mem _ hz)) with rfl | e
      · have := b1 z hz; rw [lt8_irr] at this; cases this
      · exact e
theorem wth_snoc {l : List Ent} {e : Ent} (h : ∀ a ∈ l, lt8 (pl a) (pl e) = true) : wth l e = l ++ [e] := by
  unfold wth
  rw [List.filter_eq_self.2 h, List.filter_eq_nil_iff.2 fun a ha => by rw [lt8_asymm (h a ha)]; simp]
theorem wth_mem {l : List Ent} (h : Asc l) {e : Ent} (he : e ∈ l) : wth l e = l := by
  refine asc_ext (asc_wth h e) h fun x => ?_
  rw [mem_wth]
  constructor
  · rintro (rfl | ⟨h1, _⟩)
    · exact he
    · exact h1
  · intro hx
    by_cases e1 : pl x = pl e
    · exact .inl (asc_inj h hx he e1)
    · exact .inr ⟨hx, e1⟩
theorem fnd_wth {l : List Ent} (h : Asc l) (e : Ent) (p : List UInt8) : fnd (wth l e) p = if p = pl e then some e else fnd l p := by
  split
  · rename_i h1
    exact (fnd_some (asc_wth h e)).2 ⟨mem_wth.2 (.inl rfl), h1.symm⟩
  · rename_i h1
    cases hf : fnd l p with
    | none =>
      rw [fnd_none] at hf ⊢
      intro x hx
      rcases mem_wth.1 hx with rfl | ⟨h2, _⟩
      · exact fun e0 => h1 e0.symm
      · exact hf x h2
    | some x =>
      rw [fnd_some h] at hf
      rw [fnd_some (asc_wth h e)]
      exact ⟨mem_wth.2 (.inr ⟨hf.1, fun e0 => h1 (hf.2.symm.trans e0)⟩), hf.2⟩
theorem fnd_wout (l : List Ent) (p : List UInt8) : fnd (wout l p) p = none := by
  rw [fnd_none]
  intro e he
  simpa using (List.mem_filter.1 he).2
theorem len_wout {l : List Ent} (h : Asc l) {p : List UInt8} {e : Ent} (he : fnd l p = some e) : (wout l p).length + 1 = l.length := by
  rw [fnd_some h] at he
  obtain ⟨he, hp⟩ := he
  induction l with
  | nil => cases he
  | cons x r ih =>
    obtain ⟨h1, h2⟩ := List.pairwise_cons.1 h
    unfold wout
    rcases List.mem_cons.1 he with rfl | he
    · rw [List.filter_cons_of_neg (by simp [hp]), List.filter_eq_self.2 fun y hy => ?_]
      · rfl
      · have := lt8_ne (h1 y hy)
        simp only [ne_eq, decide_not, Bool.not_eq_eq_eq_not, Bool.not_true, decide_eq_false_iff_not]
        exact fun e0 => this (hp.trans e0.symm)
    · have h3 : pl x ≠ p := fun e0 => by
        have := lt8_ne (h1 e he)
        exact this (e0.trans hp.symm)
      rw [List.filter_cons_of_pos (by simpa using h3), List.length_cons, List.length_cons]
      have := ih h2 he
      unfold wout at this
      omega
/-- What lies under a path. -/
def blw (l : List Ent) (p : List UInt8) : List Ent := l.filter fun a => und (pl a) p
/-- The rest: neither at a path nor under it. -/
def rst (l : List Ent) (p : List UInt8) : List Ent := l.filter fun a => !und (pl a) p && decide (pl a ≠ p)
theorem rl_rst {l : List Ent} (h : RL l) (p : List UInt8) : RL (rst l p) := by
  obtain ⟨h1, h2, h3⟩ := h
  refine ⟨fun e he => h1 e ((List.mem_filter.1 he).1), h2.filter _, fun e he => ?_⟩
  have hr := h1 e ((List.mem_filter.1 he).1)
  obtain ⟨p1, p2⟩ := rE_isP hr
  refine (h3 e ((List.mem_filter.1 he).1)).imp_right ?_
  rintro ⟨d, hd1, hd2, hd3⟩
  refine ⟨d, List.mem_filter.2 ⟨hd1, ?_⟩, hd2, hd3⟩
  have hu := (List.mem_filter.1 he).2
  rw [Bool.and_eq_true, Bool.not_eq_eq_eq_not, Bool.not_true, decide_eq_true_iff] at hu ⊢
  have hq := und_par9 (q := p) p1 p2
  rw [hu.1] at hq
  rw [hd2]
  rw [eq_comm, Bool.or_eq_false_iff, decide_eq_false_iff_not] at hq
  exact ⟨hq.2, fun e0 => hq.1 e0.symm⟩
theorem len_rst (l : List Ent) (p : List UInt8) : (rst l p).length ≤ l.length := List.length_filter_le _ _
end Go.Proofs.Ytkannambildnoaa

namespace Go.Proofs.Ytkannambildnoaa
open Go.RowKit

/-- The directory at a path. -/
def dE (p : ByteArray) : Ent := (p, 2, ⟨#[]⟩)
/-- One entry laid over a tree. -/
def over1 (t : List Ent) (e : Ent) : List Ent :=
  if e.2.1 = 2 then wth t (dE e.1) else if e.2.1 = 1 then wth (rst t (pl e)) e else if e.2.1 = 4 then wth (rst t (pl e)) (dE e.1) else rst t (pl e)
/-- A layer laid over a tree. -/
def over (t l : List Ent) : List Ent := l.foldl over1 t
/-- A tree, but for its size. -/
def TR (t : List Ent) : Prop := RL t ∧ ∀ e ∈ t, e.2.1 ≤ 2
instance (t : List Ent) : Decidable (TR t) := inferInstanceAs (Decidable (_ ∧ _))
/-- A tree. -/
def TreeL (t : List Ent) : Prop := t.length ≤ 1024 ∧ TR t
instance (t : List Ent) : Decidable (TreeL t) := inferInstanceAs (Decidable (_ ∧ _))
/-- What an entry shows. -/
def sh (e : Ent) : Ent := if e.2.1 = 1 then e else dE e.1
theorem pl_sh (e : Ent) : pl (sh e) = pl e := by unfold sh; split <;> rfl
theorem asc_rst {t : List Ent} (h : Asc t) (p : List UInt8) : Asc (rst t p) := h.filter _
theorem mem_rst {t : List Ent} {p : List UInt8} {x : Ent} : x ∈ rst t p ↔ x ∈ t ∧ und (pl x) p = false ∧ pl x ≠ p := by
  unfold rst
  rw [List.mem_filter, Bool.and_eq_true, Bool.not_eq_eq_eq_not, Bool.not_true, decide_eq_true_iff]
theorem asc_over1 {t : List Ent} (h : Asc t) (e : Ent) : Asc (over1 t e) := by
  unfold over1
  split
  · exact asc_wth h _
  · split
    · exact asc_wth (asc_rst h _) _
    · split
      · exact asc_wth (asc_rst h _) _
      · exact asc_rst h _
theorem asc_over : ∀ {l t : List Ent}, Asc t → Asc (over t l)
  | [], _, h => h
  | e :: r, _, h => asc_over (l := r) (asc_over1 h e)
theorem over_snoc (t l : List Ent) (e : Ent) : over t (l ++ [e]) = over1 (over t l) e := by unfold over; rw [List.foldl_append]; rfl
/-- A tree's directory is its path's. -/
theorem dir_eq {x : Ent} (h : rE x = true) (hk : x.2.1 = 2) : x = dE x.1 := by
  obtain ⟨_, _, _, _, h5⟩ := rightE_parts h
  obtain ⟨p, k, d⟩ := x
  simp only at hk h5
  subst hk
  have : d = ⟨#[]⟩ := by
    rcases h5 with h5 | h5
    · cases h5
    · exact ba_ext (List.length_eq_zero_iff.1 (by rw [← Lib.size_eq]; exact h5))
  rw [this]
  rfl
/-- What is there behind one entry. -/
theorem mem_over1 {t : List Ent} {e x : Ent} (hk : 1 ≤ e.2.1 ∧ e.2.1 ≤ 4) : x ∈ over1 t e ↔ (e.2.1 ≠ 3 ∧ x = sh e) ∨ (x ∈ t ∧ pl x ≠ pl e ∧ (e.2.1 ≠ 2 → und (pl x) (pl e) = false)) := by
  unfold over1 sh
  by_cases h2 : e.2.1 = 2
  · rw [if_pos h2, mem_wth, if_neg (by omega)]
    simp only [h2]
    constructor
    · rintro (h | ⟨h, h'⟩)
      · exact .inl ⟨by omega, h⟩
      · exact .inr ⟨h, h', fun h9 => absurd rfl h9⟩
    · rintro (⟨_, h⟩ | ⟨h, h', _⟩)
      · exact .inl h
      · exact .inr ⟨h, h'⟩
  · rw [if_neg h2]
    by_cases h1 : e.2.1 = 1
    · rw [if_pos h1, if_pos h1, mem_wth, mem_rst]
      constructor
      · rintro (h | ⟨⟨h, h', h''⟩, _⟩)
        · exact .inl ⟨by omega, h⟩
        · exact .inr ⟨h, h'', fun _ => h'⟩
      · rintro (⟨_, h⟩ | ⟨h, h', h''⟩)
        · exact .inl h
        · exact .inr ⟨⟨h, h'' h2, h'⟩, h'⟩
    · rw [if_neg h1, if_neg h1]
      by_cases h4 : e.2.1 = 4
      · rw [if_pos h4, mem_wth, mem_rst]
        constructor
        · rintro (h | ⟨⟨h, h', h''⟩, _⟩)
          · exact .inl ⟨by omega, h⟩
          · exact .inr ⟨h, h'', fun _ => h'⟩
        · rintro (⟨_, h⟩ | ⟨h, h', h''⟩)
          · exact .inl h
          · exact .inr ⟨⟨h, h'' h2, h'⟩, h'⟩
      · rw [if_neg h4, mem_rst]
        constructor
        · rintro ⟨h, h', h''⟩
          exact .inr ⟨h, h'', fun _ => h'⟩
        · rintro (⟨h, _⟩ | ⟨h, h', h''⟩)
          · omega
          · exact ⟨h, h'' h2, h'⟩
theorem kind_of {e : Ent} (h : rE e = true) : 1 ≤ e.2.1 ∧ e.2.1 ≤ 4 := by
  obtain ⟨_, h2, h3, _⟩ := rightE_parts h
  exact ⟨h2, h3⟩
/-- What is there behind a layer: what its entries show, and what was there that none of them names, or hides. -/
theorem mem_over {l t : List Ent} (hr : ∀ e ∈ l, rE e = true) (hA : Asc l) {x : Ent} : x ∈ over t l ↔ (∃ e ∈ l, e.2.1 ≠ 3 ∧ x = sh e) ∨ (x ∈ t ∧ ∀ e ∈ l, pl x ≠ pl e ∧ (e.2.1 ≠ 2 → und (pl x) (pl e) = false)) := by
  have key : ∀ k (m : List Ent), m.length = k → (∀ e ∈ m, rE e = true) → Asc m → (x ∈ over t m ↔ (∃ e ∈ m, e.2.1 ≠ 3 ∧ x = sh e) ∨ (x ∈ t ∧ ∀ e ∈ m, pl x ≠ pl e ∧ (e.2.1 ≠ 2 → und (pl x) (pl e) = false))) := by
    intro k
    induction k with
    | zero =>
      intro m hm _ _
      rw [List.length_eq_zero_iff.1 hm]
      simp [over]
    | succ k ih =>
      intro m hm hr hA
      rcases List.eq_nil_or_concat m with rfl | ⟨r, b, rfl⟩
      · simp at hm
      · rw [List.concat_eq_append] at *
        have hrb := hr b (by simp)
        obtain ⟨hA1, hA2⟩ := asc_snoc.1 hA
        have ih := ih r (by simpa using hm) (fun e he => hr e (by simp [he])) hA1
        rw [over_snoc, mem_over1 (kind_of hrb), ih]
        constructor
        · rintro (⟨h1, h2⟩ | ⟨h1 | ⟨h1, h2⟩, h3, h4⟩)
          · exact .inl ⟨b, by simp, h1, h2⟩
          · obtain ⟨e, he, h5⟩ := h1
            exact .inl ⟨e, by simp [he], h5⟩
          · refine .inr ⟨h1, fun e he => ?_⟩
            rcases List.mem_append.1 he with he | he
            · exact h2 e he
            · obtain rfl : e = b := by simpa using he
              exact ⟨h3, h4⟩
        · rintro (⟨e, he, h1, h2⟩ | ⟨h1, h2⟩)
          · rcases List.mem_append.1 he with he | he
            · refine .inr ⟨.inl ⟨e, he, h1, h2⟩, ?_, fun _ => ?_⟩
              · rw [h2, pl_sh]
                exact lt8_ne (hA2 e he)
              · rw [h2, pl_sh]
                cases hu : und (pl e) (pl b) with
                | false => rfl
                | true =>
                  have := lt8_trans (und_lt hu) (hA2 e he)
                  rw [lt8_irr] at this
                  cases this
            · obtain rfl : e = b := by simpa using he
              exact .inl ⟨h1, h2⟩
          · exact .inr ⟨.inr ⟨h1, fun e he => h2 e (by simp [he])⟩, h2 b (by simp)⟩
  exact key _ l rfl hr hA
theorem sh_tree {e : Ent} (h : rE e = true) (h2 : e.2.1 ≤ 2) : sh e = e := by
  unfold sh
  split
  · rfl
  · have := kind_of h
    exact (dir_eq h (by omega)).symm
theorem sh_right {e : Ent} (h : rE e = true) : rE (sh e) = true ∧ (sh e).2.1 ≤ 2 := by
  unfold sh
  split
  · rename_i h1
    exact ⟨h, by omega⟩
  · refine ⟨rightE_of (rightE_parts h).1 (.inr ⟨⟨show (2 : Int) ≤ 2 by decide, show (2 : Int) ≤ 4 by decide⟩, rfl⟩), show (2 : Int) ≤ 2 by decide⟩
theorem sh_hd {e : Ent} (h : rE e = true) (h3 : e.2.1 ≠ 3) : hd e = hd (sh e) := by
  have := kind_of h
  unfold hd sh
  split
  · rfl
  · rename_i h1
    have : e.2.1 = 2 ∨ e.2.1 = 4 := by omega
    rcases this with h | h <;> rw [h] <;> rfl
/-- What comes is a tree. -/
theorem tr_over {t l : List Ent} (ht : TR t) (hl : RL l) : TR (over t l) := by
  obtain ⟨⟨t1, t2, t3⟩, t4⟩ := ht
  obtain ⟨l1, l2, l3⟩ := hl
  have hm : ∀ x, x ∈ over t l ↔ _ := fun x => mem_over (t := t) l1 l2 (x := x)
  refine ⟨⟨fun x hx => ?_, asc_over t2, fun x hx => ?_⟩, fun x hx => ?_⟩
  · rcases (hm x).1 hx with ⟨e, he, _, rfl⟩ | ⟨h1, _⟩
    · exact (sh_right (l1 e he)).1
    · exact t1 x h1
  · rcases (hm x).1 hx with ⟨e, he, _, rfl⟩ | ⟨h1, h2⟩
    · unfold inD
      rw [pl_sh]
      refine (l3 e he).imp_right ?_
      rintro ⟨d, hd1, hd2, hd3⟩
      have hd9 : d.2.1 ≠ 3 := fun h9 => by unfold hd at hd3; rw [h9] at hd3; cases hd3
      exact ⟨sh d, (hm _).2 (.inl ⟨d, hd1, hd9, rfl⟩), by rw [pl_sh]; exact hd2, by rw [← sh_hd (l1 d hd1) hd9]; exact hd3⟩
    · refine (t3 x h1).imp_right ?_
      rintro ⟨d, hd1, hd2, hd3⟩
      obtain ⟨p1, p2⟩ := rE_isP (t1 x h1)
      by_cases hn : ∃ e ∈ l, pl d = pl e
      · obtain ⟨e, he, hde⟩ := hn
        have hux : und (pl x) (pl e) = true := by rw [und_par9 p1 p2, ← hd2, hde, decide_eq_true rfl, Bool.true_or]
        have hk2 : e.2.1 = 2 := by
          by_cases h2' : e.2.1 = 2
          · exact h2'
          · have := (h2 e he).2 h2'
            rw [hux] at this
            cases this
        refine ⟨sh e, (hm _).2 (.inl ⟨e, he, by omega, rfl⟩), by rw [pl_sh, ← hde]; exact hd2, ?_⟩
        rw [← sh_hd (l1 e he) (by omega)]
        unfold hd
        rw [hk2]
        rfl
      · refine ⟨d, (hm _).2 (.inr ⟨hd1, fun e he => ⟨fun h9 => hn ⟨e, he, h9⟩, fun h2' => ?_⟩⟩), hd2, hd3⟩
        cases hu : und (pl d) (pl e) with
        | false => rfl
        | true =>
          have := (h2 e he).2 h2'
          rw [und_par9 p1 p2, ← hd2, hu, Bool.or_true] at this
          cases this
  · rcases (hm x).1 hx with ⟨e, he, _, rfl⟩ | ⟨h1, _⟩
    · exact (sh_right (l1 e he)).2
    · exact t4 x h1
/-- A layer laid over twice is as laid over once. -/
theorem over_twice {t l : List Ent} (ht : Asc t) (hr : ∀ e ∈ l, rE e = true) (hA : Asc l) : over (over t l) l = over t l := by
  refine asc_ext (asc_over (asc_over ht)) (asc_over ht) fun x => ?_
  rw [mem_over hr hA, mem_over hr hA]
  constructor
  · rintro (h | ⟨h | h, h'⟩)
    · exact .inl h
    · exact .inl h
    · exact .inr h
  · rintro (h | h)
    · exact .inl h
    · exact .inr ⟨.inr h, h.2⟩
/-- A tree, laid over nothing, is itself. -/
theorem over_nil {t : List Ent} (h : TR t) : over [] t = t := by
  refine asc_ext (asc_over List.Pairwise.nil) h.1.2.1 fun x => ?_
  rw [mem_over h.1.1 h.1.2.1]
  constructor
  · rintro (⟨e, he, _, rfl⟩ | ⟨h1, _⟩)
    · rw [sh_tree (h.1.1 e he) (h.2 e he)]
      exact he
    · cases h1
  · intro hx
    exact .inl ⟨x, hx, by have := h.2 x hx; omega, (sh_tree (h.1.1 x hx) (h.2 x hx)).symm⟩
/-- A whiteout alone. -/
theorem over_white (t : List Ent) (p : ByteArray) (d : ByteArray) : over t [(p, 3, d)] = rst t p.data.toList := rfl
theorem over_empty (t : List Ent) : over t [] = t := rfl
/-- What none of a layer's entries names, or lies above, stays. -/
theorem over_keeps {t l : List Ent} (hr : ∀ e ∈ l, rE e = true) (hA : Asc l) {x : Ent} (hx : x ∈ t) (h : ∀ e ∈ l, pl x ≠ pl e ∧ und (pl x) (pl e) = false) : x ∈ over t l := (mem_over hr hA).2 (.inr ⟨hx, fun e he => ⟨(h e he).1, fun _ => (h e he).2⟩⟩)
theorem wth_le (l : List Ent) (e : Ent) : (wth l e).length ≤ l.length + 1 := by
  have key : ∀ m : List Ent, (m.filter (fun a => lt8 (pl a) (pl e))).length + (m.filter (fun a => lt8 (pl e) (pl a))).length ≤ m.length := by
    intro m
    induction m with
    | nil => simp
    | cons x r ih =>
      rw [List.filter_cons, List.filter_cons]
      cases h1 : lt8 (pl x) (pl e) with
      | true =>
        rw [lt8_asymm h1]
        simp
        omega
      | false => cases lt8 (pl e) (pl x) <;> simp <;> omega
  have := key l
  unfold wth
  rw [List.length_append, List.length_cons]
  omega
theorem over1_len (t : List Ent) (e : Ent) : (over1 t e).length ≤ t.length + 1 := by
  have h1 := wth_le t (dE e.1)
  have h2 := wth_le (rst t (pl e)) e
  have h3 := wth_le (rst t (pl e)) (dE e.1)
  have h4 := len_rst t (pl e)
  unfold over1
  split
  · omega
  · split
    · omega
    · split <;> omega
theorem over_len : ∀ (l t : List Ent), (over t l).length ≤ t.length + l.length
  | [], t => by simp [over]
  | e :: r, t => by
    have h1 := over1_len t e
    have h2 := over_len r (over1 t e)
    show (over (over1 t e) r).length ≤ _
    rw [List.length_cons]
    omega
/-- What a stack shows. -/
def stk (s : List (List Ent)) : List Ent := s.foldl over []
theorem stk_snoc (s : List (List Ent)) (l : List Ent) : stk (s ++ [l]) = over (stk s) l := by unfold stk; rw [List.foldl_append]; rfl
theorem tr_nil : TR [] := ⟨rl_nil, by simp⟩
theorem tr_stk {s : List (List Ent)} (h : ∀ l ∈ s, RightL l) : TR (stk s) := by
  have key : ∀ (s : List (List Ent)) (t : List Ent), TR t → (∀ l ∈ s, RightL l) → TR (s.foldl over t) := by
    intro s
    induction s with
    | nil => intro t ht _; exact ht
    | cons l r ih => intro t ht h; exact ih _ (tr_over ht (h l (by simp)).2) fun m hm => h m (by simp [hm])
  exact key s [] tr_nil h
theorem stk_len {s : List (List Ent)} (h : ∀ l ∈ s, RightL l) : (stk s).length ≤ 64 * s.length := by
  have key : ∀ (s : List (List Ent)) (t : List Ent), (∀ l ∈ s, RightL l) → (s.foldl over t).length ≤ t.length + 64 * s.length := by
    intro s
    induction s with
    | nil => intro t _; simp
    | cons l r ih =>
      intro t h
      have h1 := ih (over t l) fun m hm => h m (by simp [hm])
      have h2 := over_len l t
      have h3 := (h l (by simp)).1
      rw [List.foldl_cons, List.length_cons]
      omega
  have := key s [] h
  rw [List.length_nil, Nat.zero_add] at this
  exact this
theorem stk_insert (a b : List (List Ent)) : stk (a ++ [] :: b) = stk (a ++ b) := by
  unfold stk
  rw [List.foldl_append, List.foldl_append]
  rfl
end Go.Proofs.Ytkannambildnoaa

namespace Go.Proofs.Ytkannambildnoaa
open Go.RowKit

/-- Does a text begin with another one and a slash? -/
def upx (p d : List UInt8) : Bool := (d ++ [47]).isPrefixOf p
theorem upx_und {p d : List UInt8} (hp : isP p) (hd : isP d) (h : d ≠ [47]) : upx p d = und p d := by
  rw [und_eq hp hd, if_neg h]
  rfl
theorem upx_long {p d : List UInt8} (h : ¬ d.length < p.length) : upx p d = false := by
  unfold upx
  cases hx : (d ++ [47]).isPrefixOf p with
  | false => rfl
  | true =>
    have := (List.isPrefixOf_iff_prefix.1 hx).length_le
    simp at this
    omega
theorem upx_take (p d : List UInt8) : upx p d = decide (p.take (d.length + 1) = d ++ [47]) := by
  unfold upx
  rw [Bool.eq_iff_iff, List.isPrefixOf_iff_prefix, decide_eq_true_iff, List.prefix_iff_eq_take]
  simp only [List.length_append, List.length_cons, List.length_nil]
  exact eq_comm
set_option maxRecDepth 10000 in
set_option maxHeartbeats 1000000 in
theorem refUnd (p d : ByteArray) (hd : d.size ≤ 100000) (w : World) : Calls Try.prog 21 #[.string p, .string d] w fun e w' => e = .returned (.bool (upx p.data.toList d.data.toList)) ∧ w = w' := by
  by_cases h : d.size < p.size
  · have h' : (d.size : Int) < (p.size : Int) := by omega
    have hw : IntKind.i64.wrap ((d.size : Int) + 1) = (d.size : Int) + 1 := IntWalk.i64_in _ (by omega)
    have z1 : ¬ 9223372036854775807 < d.size + 1 := by omega
    have hle : (d.size : Int) + 1 ≤ (p.size : Int) := by omega
    have HV := Lib.hid (show ((p.extract 0 (d.size + 1)).toList == (d ++ ⟨#[47]⟩).toList) = upx p.data.toList d.data.toList by
      rw [upx_take, Bool.eq_iff_iff, beq_iff_eq, decide_eq_true_iff, Lib.toList_data, Lib.toList_data]
      simp [ByteArray.data_append])
    clear hd
    go_enter Try.func21, Try.ntmps21
    go_wp2
    go_ret
    exact ⟨by rw [← HV.out]; first | rfl | simp, rfl⟩
  · have h' : ¬ (d.size : Int) < (p.size : Int) := by omega
    have HV := Lib.hid (upx_long (p := p.data.toList) (d := d.data.toList) (by rw [← Lib.size_eq, ← Lib.size_eq]; exact h))
    clear hd
    go_enter Try.func21, Try.ntmps21
    go_wp2
    go_ret
    exact ⟨by rw [HV.out]; rfl, rfl⟩
end Go.Proofs.Ytkannambildnoaa

namespace Go.Proofs.Ytkannambildnoaa
open Go.RowKit Go.ChangeShapes Go.WideShapes Go.Deep

/-- A slice that holds a list, each element as C cells. -/
def RowN {α : Type} (C : Nat) (f : α → List Value) (w : World) (a : Option Addr) (cap : Nat) (l : List α) : Prop :=
  l.length ≤ cap ∧ (l = [] ∨ ∃ b off, a = some ⟨b, off, none⟩ ∧ b < w.heap.size ∧ ∀ (j : Nat) x, l[j]? = some x → w.rangeAt b (off + j * C) (f x))
theorem rangeAt_below {w w' : World} {B b o : Nat} {cs : List Value} (h : w.rangeAt b o cs) (hb : Below B w w') (hB : b < B) : w'.rangeAt b o cs := fun j v hv => (hb.cell (p := ⟨b, o + j, none⟩) hB).trans (h j v hv)
theorem RowN.below {α : Type} {C : Nat} {f : α → List Value} {w w' : World} {a : Option Addr} {cap : Nat} {l : List α} (h : RowN C f w a cap l) (hb : Below w.heap.size w w') : RowN C f w' a cap l := by
  obtain ⟨h1, h2⟩ := h
  refine ⟨h1, h2.imp_right ?_⟩
  rintro ⟨b, off, rfl, hlt, hc⟩
  exact ⟨b, off, rfl, Nat.lt_of_lt_of_le hlt hb.size, fun j x hx => rangeAt_below (hc j x hx) hb hlt⟩
theorem RowN.at {α : Type} {C : Nat} {f : α → List Value} {w w' : World} {a : Option Addr} {cap : Nat} {l : List α} (h : RowN C f w a cap l) (hb : Below w.heap.size w w') {k : Nat} (hk : k < l.length) :
    ∃ b off x, a = some ⟨b, off, none⟩ ∧ b < w.heap.size ∧ w'.rangeAt b (off + k * C) (f x) ∧ x ∈ l ∧ l.take (k + 1) = l.take k ++ [x] ∧ l.drop k = x :: l.drop (k + 1) := by
  rcases h.2 with h0 | ⟨b, off, rfl, hlt, hc⟩
  · rw [h0] at hk; simp at hk
  · have hx : l[k]? = some l[k] := List.getElem?_eq_getElem hk
    exact ⟨b, off, l[k], rfl, hlt, rangeAt_below (hc k l[k] hx) hb hlt, List.getElem_mem hk, by rw [List.take_add_one, hx]; rfl, List.drop_eq_getElem_cons hk⟩

theorem list_of {α β : Type} (f : α → β → Prop) (n : Nat) (g : Nat → β) (h : ∀ i, i < n → ∃ x, f x (g i)) : ∃ l : List α, l.length = n ∧ ∀ j x, l[j]? = some x → f x (g j) := by
  induction n with
  | zero => exact ⟨[], rfl, fun j x hx => by simp at hx⟩
  | succ n ih =>
    obtain ⟨l, hl, hf⟩ := ih fun i hi => h i (by omega)
    obtain ⟨y, hy⟩ := h n (by omega)
    refine ⟨l ++ [y], by simp [hl], fun j x hx => ?_⟩
    by_cases hj : j < l.length
    · rw [List.getElem?_append_left hj] at hx
      exact hf j x hx
    · rw [List.getElem?_append_right (by omega)] at hx
      have : j - l.length = 0 := by
        rcases Nat.eq_zero_or_pos (j - l.length) with h0 | h0
        · exact h0
        · rw [List.getElem?_eq_none (by simp; omega)] at hx
          cases hx
      rw [this] at hx
      have e : j = n := by omega
      subst e
      obtain rfl : y = x := by simpa using hx
      exact hy

theorem rowN_open {H α : Type} {enc : TypeId × Value → H} {P : Program} {W : World} {b : Nat} {t e : TypeId} {C : Nat} (f : α → List Value) (ok : α → Prop) (ht : P.underlying t = some (.slice e)) (hC : P.cellsOf e = C) (hC0 : 0 < C)
    (hof : ∀ n cs d, DataW.trod enc P W b (fun _ => true) true n e cs = some d → ∃ x, ok x ∧ cs = f x) {a : Option Addr} {len cap : Nat} {d : DataW H} {ps : List MemPlace}
    (h : ∃ fuel, DataW.trod enc P W b (fun _ => true) true fuel t (Value.slice a len cap).cells.toList = some (d, ps)) : ∃ l : List α, len = l.length ∧ RowN C f W a cap l ∧ (∀ x ∈ l, ok x) ∧ l.length ≤ maxLen := by
  obtain ⟨fuel, hf⟩ := h
  rcases open_slice ht hf with ⟨hcs, _⟩ | ⟨a', len', cap', m, n, D, Pl, hcs, _, hl, hm, hmm, _, hi⟩
  · simp [Value.cells] at hcs
    obtain ⟨rfl, rfl, rfl⟩ := hcs
    exact ⟨[], rfl, ⟨by simp, .inl rfl⟩, by simp, by simp [maxLen]⟩
  · simp [Value.cells] at hcs
    obtain ⟨rfl, rfl, rfl⟩ := hcs
    simp at hmm
    subst hmm
    rw [hC] at hi
    obtain ⟨L, hL, hLf⟩ := list_of (fun x i => ok x ∧ W.cells? b (a'.add (i * C)) C = some (f x)) len id fun i hil => by
      obtain ⟨cs', h1, h2⟩ := hi i (by omega)
      obtain ⟨x, h3, rfl⟩ := hof n cs' _ h2
      exact ⟨x, h3, h1⟩
    refine ⟨L, hL.symm, ⟨by omega, ?_⟩, fun x hx => ?_, by omega⟩
    · by_cases h0 : L = []
      · exact .inl h0
      · right
        obtain ⟨x0, hx0⟩ : ∃ x0, L[0]? = some x0 := by
          cases L with
          | nil => exact absurd rfl h0
          | cons x r => exact ⟨x, rfl⟩
        obtain ⟨bb, off, spot⟩ := a'
        have g0 := (World.cells?_some (hLf 0 x0 hx0).2)
        have c0 := g0.2.2 0 hC0
        have hsome : ∃ v, (f x0)[0]? = some v := ⟨_, List.getElem?_eq_getElem (by rw [g0.2.1]; exact hC0)⟩
        obtain ⟨v0, hv0⟩ := hsome
        rw [hv0] at c0
        have hspot : spot = none := by simpa [Addr.add] using World.cell?_spot c0
        subst hspot
        have hlt : bb < W.heap.size := by
          rcases Nat.lt_or_ge bb W.heap.size with h' | h'
          · exact h'
          · simp [World.cell?, Addr.add, Array.getElem?_eq_none h'] at c0
        refine ⟨bb, off, rfl, hlt, fun j x hx i v hv => ?_⟩
        have gj := World.cells?_some (hLf j x hx).2
        have hil : i < C := by rw [← gj.2.1]; exact (List.getElem?_eq_some_iff.1 hv).1
        have := gj.2.2 i hil
        rw [hv, Go.WideShapes.add_plain, Go.WideShapes.add_plain] at this
        exact this
    · obtain ⟨j, hj⟩ := List.mem_iff_getElem?.1 hx
      exact (hLf j x hj).1
end Go.Proofs.Ytkannambildnoaa

namespace Go.Proofs.Ytkannambildnoaa
open Go.RowKit

/-- A slice that holds a list, each element as one cell. -/
def RowOf {α : Type} (f : α → Value) (w : World) (a : Option Addr) (cap : Nat) (l : List α) : Prop :=
  l.length ≤ cap ∧ (l = [] ∨ ∃ b off, a = some ⟨b, off, none⟩ ∧ b < w.heap.size ∧ ∀ (j : Nat) x, l[j]? = some x → w.cell? ⟨b, off + j, none⟩ = some (f x))
theorem RowOf.below {α : Type} {f : α → Value} {w w' : World} {a : Option Addr} {cap : Nat} {l : List α} (h : RowOf f w a cap l) (hb : Below w.heap.size w w') : RowOf f w' a cap l := by
  obtain ⟨h1, h2⟩ := h
  refine ⟨h1, h2.imp_right ?_⟩
  rintro ⟨b, off, rfl, hlt, hc⟩
  exact ⟨b, off, rfl, Nat.lt_of_lt_of_le hlt hb.size, fun j x hx => (hb.cell (p := ⟨b, off + j, none⟩) hlt).trans (hc j x hx)⟩
theorem RowOf.at {α : Type} {f : α → Value} {w w' : World} {a : Option Addr} {cap : Nat} {l : List α} (h : RowOf f w a cap l) (hb : Below w.heap.size w w') {k : Nat} (hk : k < l.length) :
    ∃ b off x, a = some ⟨b, off, none⟩ ∧ w'.cell? ⟨b, off + k, none⟩ = some (f x) ∧ l.take (k + 1) = l.take k ++ [x] ∧ l.drop k = x :: l.drop (k + 1) := by
  rcases h.2 with h0 | ⟨b, off, rfl, hlt, hc⟩
  · rw [h0] at hk; simp at hk
  · have hx : l[k]? = some l[k] := List.getElem?_eq_getElem hk
    exact ⟨b, off, l[k], rfl, (hb.cell (p := ⟨b, off + k, none⟩) hlt).trans (hc k l[k] hx), by rw [List.take_add_one, hx]; rfl, List.drop_eq_getElem_cons hk⟩
theorem rowOf_mk {α : Type} {f : α → Value} {w : World} {a : Addr} {len cap : Nat} {l : List α} (d : α) (hl : len ≤ l.length) (hc : len ≤ cap) (h : ∀ i, i < l.length → w.cell? (a.add i) = some (f (l.getD i d))) : RowOf f w (some a) cap (l.take len) := by
  refine ⟨by simp; omega, ?_⟩
  by_cases h0 : len = 0
  · exact .inl (by simp [h0])
  · obtain ⟨bb, off, spot⟩ := a
    have hspot : spot = none := by simpa [Addr.add] using World.cell?_spot (h 0 (by omega))
    subst hspot
    have hc0 := h 0 (by omega)
    rw [Go.WideShapes.add_plain] at hc0
    have hlt : bb < w.heap.size := by
      rcases Nat.lt_or_ge bb w.heap.size with h' | h'
      · exact h'
      · simp [World.cell?, Array.getElem?_eq_none h'] at hc0
    refine .inr ⟨bb, off, rfl, hlt, fun j x hx => ?_⟩
    rw [List.getElem?_take] at hx
    split at hx
    · rename_i hj
      have hcj := h j (by omega)
      rw [Go.WideShapes.add_plain, List.getD_eq_getElem?_getD, hx] at hcj
      exact hcj
    · cases hx
end Go.Proofs.Ytkannambildnoaa

namespace Go.Proofs.Ytkannambildnoaa
open Go.RowKit

theorem grownBy_self (w : World) (row : Option Nat) : w.grownBy w row := ⟨rfl, rfl, rfl, Nat.le_refl _, fun _ _ _ => rfl⟩

theorem run_append_any {P : Program} (w : World) (base : Nat) (t ty e : TypeId) (i : TypeInfo) (z : Value) (size bytes : Nat) (ht : P.underlying t = some (.slice e)) (hi : P.info? e = some i) (hz : i.zero = some z)
    (hsize : i.size = size) (hby : i.bytes = bytes) (hzs : z.cells.size = size) (hsz : 0 < size) (v : Value) (n : Nat) (xs : List Value) (hown : w.ownsRow base e size v n xs)
    (aS : Option Addr) (m c : Nat) (news : List Value) (hl : news.length = m * size) (hsrc : ∀ ad, aS = some ad → ∀ j u, news[j]? = some u → w.cell? (ad.add j) = some u) (hnone : aS = none → m = 0) (h1 : ∀ u ∈ news, u.oneCell' = true)
    (h63 : n + m ≤ maxLen) (hbytes : (n + m) * bytes ≤ 140737488355328) (hbase : base ≤ w.heap.size) :
    ∃ v' w', (Builtin.append_ #[t, t] ty #[v, .slice aS m c]).run P w = .ok v' w' ∧ w'.ownsRow base e size v' (n + m) (xs ++ news) ∧ w.grownBy w' v.ownBlock := by
  cases aS with
  | some ad =>
    obtain ⟨v', w', h2, h3, h4, _⟩ := run_append_own (P := P) w base t ty e i z size bytes ht hi hz hsize hby hzs hsz v n xs hown ad m c news hl (hsrc ad rfl) h1 h63 hbytes hbase
    exact ⟨v', w', h2, h3, h4⟩
  | none =>
    obtain rfl := hnone rfl
    obtain rfl : news = [] := List.eq_nil_of_length_eq_zero (by simpa using hl)
    refine ⟨v, w, ?_, by simpa using hown, grownBy_self _ _⟩
    subst hsize
    rcases hown.2 with ⟨rfl, rfl⟩ | ⟨g, cap, cur, rfl, _, _, hnc, _⟩
    · simp [Builtin.append_, run_underlying ht, sizeOf, typeInfo, hi, Builtin.lenOf, Builtin.firstCells]
    · have hr := run_append_room_src (P := P) w t t ty e i ht hi g 0 n cap (.slice none 0 c) 0 [] (Src.ofNil w ht c) (by omega) (fun j hj => by simp at hj) (fun j hj => by simp at hj)
      simpa [World.setCells] using hr

theorem wl_append_any {P : Program} {w : World} {ops : Array Oper} {rest : List Oper} {o : Oper} {a : Act} {Q : Exit → Act → World → Prop} (hgd : o.guard = none) (s x : Operand) (t : TypeId)
    (ho : o.op = .call { callee := .builtin .append, args := #[s, x], argTypes := #[t, t] })
    (base : Nat) (e : TypeId) (i : TypeInfo) (z : Value) (size bytes : Nat) (ht : P.underlying t = some (.slice e)) (hi : P.info? e = some i) (hz : i.zero = some z)
    (hsize : i.size = size) (hby : i.bytes = bytes) (hzs : z.cells.size = size) (hsz : 0 < size) (v : Value) (n : Nat) (xs : List Value) (hs : a.eval s = v) (hown : w.ownsRow base e size v n xs)
    (aS : Option Addr) (m c : Nat) (news : List Value) (hx : a.eval x = .slice aS m c) (hl : news.length = m * size) (hsrc : ∀ ad, aS = some ad → ∀ j u, news[j]? = some u → w.cell? (ad.add j) = some u) (hnone : aS = none → m = 0) (h1 : ∀ u ∈ news, u.oneCell' = true)
    (h63 : n + m ≤ maxLen) (hbytes : (n + m) * bytes ≤ 140737488355328) (hbase : base ≤ w.heap.size)
    (h : ∀ v' w', w'.ownsRow base e size v' (n + m) (xs ++ news) → w.grownBy w' v.ownBlock → wpList P ops Q rest (a.put o.dst v') w') : wpList P ops Q (o :: rest) a w := by
  refine wpList_plain hgd fun K hK => ?_
  obtain ⟨v', w', hr, h2, h3⟩ := run_append_any (P := P) w base t o.type e i z size bytes ht hi hz hsize hby hzs hsz v n xs hown aS m c news hl hsrc hnone h1 h63 hbytes hbase
  unfold Oper.wp execOp
  simp only [ho, resolve, invoke, builtin, Sem.run_bind, Sem.run_pure, Result.andThen_ok, List.map_toArray, List.map_cons, List.map_nil, hs, hx, hr]
  exact hK _ _ (h v' w' h2 h3)

theorem step_append_any {P : Program} {w : World} {ops : Array Oper} {o : Oper} {a : Act} {K : Act → World → Prop} {Q : Exit → Act → World → Prop} {E : Prop} (hgd : o.guard = none) (s x : Operand) (t : TypeId)
    (ho : o.op = .call { callee := .builtin .append, args := #[s, x], argTypes := #[t, t] })
    (base : Nat) (e : TypeId) (i : TypeInfo) (z : Value) (size bytes : Nat) (ht : P.underlying t = some (.slice e)) (hi : P.info? e = some i) (hz : i.zero = some z)
    (hsize : i.size = size) (hby : i.bytes = bytes) (hzs : z.cells.size = size) (hsz : 0 < size) (v : Value) (n : Nat) (xs : List Value) (hs : a.eval s = v) (hown : w.ownsRow base e size v n xs)
    (aS : Option Addr) (m c : Nat) (news : List Value) (hx : a.eval x = .slice aS m c) (hl : news.length = m * size) (hsrc : ∀ ad, aS = some ad → ∀ j u, news[j]? = some u → w.cell? (ad.add j) = some u) (hnone : aS = none → m = 0) (h1 : ∀ u ∈ news, u.oneCell' = true)
    (h63 : n + m ≤ maxLen) (hbytes : (n + m) * bytes ≤ 140737488355328) (hbase : base ≤ w.heap.size)
    (h : ∀ v' w', w'.ownsRow base e size v' (n + m) (xs ++ news) → w.grownBy w' v.ownBlock → K (a.put o.dst v') w') :
    if Region.wanted o (yielded ops a.tmps) = true then Oper.wp P o a w K Q else E := by
  have hw : Region.wanted o (yielded ops a.tmps) = true := by simp [Region.wanted, hgd]
  rw [if_pos hw]
  obtain ⟨v', w', hr, h2, h3⟩ := run_append_any (P := P) w base t o.type e i z size bytes ht hi hz hsize hby hzs hsz v n xs hown aS m c news hl hsrc hnone h1 h63 hbytes hbase
  unfold Oper.wp execOp
  simp only [ho, resolve, invoke, builtin, Sem.run_bind, Sem.run_pure, Result.andThen_ok, List.map_toArray, List.map_cons, List.map_nil, hs, hx, hr]
  exact h v' w' h2 h3

theorem RowOf.src {α : Type} {f : α → Value} {w : World} {a : Option Addr} {cap : Nat} {l : List α} (h : RowOf f w a cap l) : (∀ ad, a = some ad → ∀ j u, (l.map f)[j]? = some u → w.cell? (ad.add j) = some u) ∧ (a = none → l.length = 0) := by
  rcases h.2 with rfl | ⟨b, off, rfl, _, hc⟩
  · exact ⟨fun _ _ j u hu => by simp at hu, fun _ => rfl⟩
  · refine ⟨fun ad e j u hu => ?_, fun e => by cases e⟩
    cases e
    rw [List.getElem?_map] at hu
    cases hx : l[j]? with
    | none => rw [hx] at hu; cases hu
    | some x =>
      rw [hx] at hu
      obtain rfl : f x = u := by simpa using hu
      rw [Addr.add_lit]
      exact hc j x hx
theorem rowOf_owns {α : Type} {f : α → Value} {w : World} {B : Nat} {e : TypeId} {v : Value} {l : List α} (h : w.ownsRow B e 1 v l.length (l.map f)) : ∃ a cap, v = .slice a l.length cap ∧ RowOf f w a cap l ∧ ∀ ad, a = some ad → B ≤ ad.block := by
  obtain ⟨_, ⟨rfl, h0⟩ | ⟨g, cap, cur, rfl, hg, hbk, hc, _, _, ht⟩⟩ := h
  · exact ⟨none, 0, by rw [h0], ⟨by omega, .inl (List.length_eq_zero_iff.1 h0)⟩, fun ad e => by cases e⟩
  · refine ⟨_, cap, rfl, ⟨hc, .inr ⟨g, 0, rfl, (Array.getElem?_eq_some_iff.1 hbk).1, fun j x hx => ?_⟩⟩, fun ad e => by cases e; exact hg⟩
    have hj : j < l.length := (List.getElem?_eq_some_iff.1 hx).1
    have h4 := congrArg (·[j]?) ht
    simp only [List.getElem?_take, Nat.mul_one, if_pos hj, List.getElem?_map, hx, Array.getElem?_toList] at h4
    simp [World.cell?, hbk, h4]
theorem RowOf.set {α : Type} {f : α → Value} {w : World} {a : Option Addr} {cap : Nat} {l : List α} (h : RowOf f w a cap l) {p : Addr} (hne : ∀ ad, a = some ad → ad.block ≠ p.block) (v : Value) : RowOf f (w.setCell p v) a cap l := by
  refine ⟨h.1, h.2.imp_right ?_⟩
  rintro ⟨b, off, rfl, hlt, hc⟩
  refine ⟨b, off, rfl, by simpa [World.setCell] using hlt, fun j x hx => ?_⟩
  rw [World.cell?_setCell_other _ _ _ _ (fun e => hne _ rfl (by rw [e]))]
  exact hc j x hx
theorem RowN.set {α : Type} {C : Nat} {f : α → List Value} {w : World} {a : Option Addr} {cap : Nat} {l : List α} (h : RowN C f w a cap l) {p : Addr} (hne : ∀ ad, a = some ad → ad.block ≠ p.block) (v : Value) : RowN C f (w.setCell p v) a cap l := by
  refine ⟨h.1, h.2.imp_right ?_⟩
  rintro ⟨b, off, rfl, hlt, hc⟩
  refine ⟨b, off, rfl, by simpa [World.setCell] using hlt, fun j x hx i u hu => ?_⟩
  rw [World.cell?_setCell_other _ _ _ _ (fun e => hne _ rfl (by rw [e]))]
  exact hc j x hx i u hu
theorem RowOf.sets {α : Type} {f : α → Value} {a : Option Addr} {cap : Nat} {l : List α} {b : Nat} (hne : ∀ ad, a = some ad → ad.block ≠ b) : ∀ {w : World}, RowOf f w a cap l → ∀ (o : Nat) (vs : List Value), RowOf f (w.setCells b o vs) a cap l := by
  intro w h o vs
  induction vs generalizing w o with
  | nil => exact h
  | cons v r ih => rw [World.setCells]; exact ih (h.set (p := ⟨b, o, none⟩) hne v) (o + 1)
theorem RowN.sets {α : Type} {C : Nat} {f : α → List Value} {a : Option Addr} {cap : Nat} {l : List α} {b : Nat} (hne : ∀ ad, a = some ad → ad.block ≠ b) : ∀ {w : World}, RowN C f w a cap l → ∀ (o : Nat) (vs : List Value), RowN C f (w.setCells b o vs) a cap l := by
  intro w h o vs
  induction vs generalizing w o with
  | nil => exact h
  | cons v r ih => rw [World.setCells]; exact ih (h.set (p := ⟨b, o, none⟩) hne v) (o + 1)
theorem flat_at {α : Type} {C : Nat} {f : α → List Value} : ∀ (l : List α), (∀ x ∈ l, (f x).length = C) → ∀ (j i : Nat) x v, l[j]? = some x → (f x)[i]? = some v → (l.flatMap f)[j * C + i]? = some v
  | [], _, j, i, x, v, hx, _ => by simp at hx
  | y :: r, hC, 0, i, x, v, hx, hv => by
    obtain rfl : y = x := by simpa using hx
    rw [List.flatMap_cons, Nat.zero_mul, Nat.zero_add, List.getElem?_append_left (List.getElem?_eq_some_iff.1 hv).1]
    exact hv
  | y :: r, hC, j + 1, i, x, v, hx, hv => by
    have h1 := hC y List.mem_cons_self
    have := flat_at r (fun x hx => hC x (List.mem_cons_of_mem _ hx)) j i x v (by simpa using hx) hv
    rw [List.flatMap_cons, List.getElem?_append_right (by rw [h1, Nat.succ_mul]; omega), h1, show (j + 1) * C + i - C = j * C + i by rw [Nat.succ_mul]; omega]
    exact this
theorem flat_len {α : Type} {C : Nat} {f : α → List Value} : ∀ (l : List α), (∀ x ∈ l, (f x).length = C) → (l.flatMap f).length = l.length * C
  | [], _ => by simp
  | y :: r, hC => by
    rw [List.flatMap_cons, List.length_append, hC y List.mem_cons_self, flat_len r fun x hx => hC x (List.mem_cons_of_mem _ hx), List.length_cons, Nat.succ_mul, Nat.add_comm]
theorem flat_back {α : Type} {C : Nat} {f : α → List Value} (hC0 : 0 < C) : ∀ (l : List α), (∀ x ∈ l, (f x).length = C) → ∀ (k : Nat) v, (l.flatMap f)[k]? = some v → ∃ x, l[k / C]? = some x ∧ (f x)[k % C]? = some v
  | [], _, k, v, hv => by simp at hv
  | y :: r, hC, k, v, hv => by
    have h1 := hC y List.mem_cons_self
    rw [List.flatMap_cons] at hv
    by_cases hk : k < C
    · rw [List.getElem?_append_left (by omega)] at hv
      exact ⟨y, by rw [Nat.div_eq_of_lt hk]; rfl, by rw [Nat.mod_eq_of_lt hk]; exact hv⟩
    · rw [List.getElem?_append_right (by omega), h1] at hv
      obtain ⟨x, hx, hm⟩ := flat_back hC0 r (fun x hx => hC x (List.mem_cons_of_mem _ hx)) (k - C) v hv
      have e1 : k / C = (k - C) / C + 1 := by rw [Nat.div_eq_sub_div hC0 (by omega)]
      have e2 : k % C = (k - C) % C := Nat.mod_eq_sub_mod (by omega)
      exact ⟨x, by rw [e1]; simpa using hx, by rw [e2]; exact hm⟩
theorem RowN.src {α : Type} {C : Nat} {f : α → List Value} {w : World} {a : Option Addr} {cap : Nat} {l : List α} (h : RowN C f w a cap l) (hC0 : 0 < C) (hC : ∀ x ∈ l, (f x).length = C) : (∀ ad, a = some ad → ∀ j u, (l.flatMap f)[j]? = some u → w.cell? (ad.add j) = some u) ∧ (a = none → l.length = 0) := by
  rcases h.2 with rfl | ⟨b, off, rfl, _, hc⟩
  · exact ⟨fun _ _ j u hu => by simp at hu, fun _ => rfl⟩
  · refine ⟨fun ad e j u hu => ?_, fun e => by cases e⟩
    cases e
    obtain ⟨x, hx, hv⟩ := flat_back hC0 l hC j u hu
    have := hc _ x hx _ u hv
    rw [Addr.add_lit]
    rwa [Nat.add_assoc, Nat.mul_comm, Nat.div_add_mod] at this
theorem rowN_owns {α : Type} {C : Nat} {f : α → List Value} {w : World} {B : Nat} {e : TypeId} {v : Value} {l : List α} (hC : ∀ x ∈ l, (f x).length = C) (h : w.ownsRow B e C v l.length (l.flatMap f)) : ∃ a cap, v = .slice a l.length cap ∧ RowN C f w a cap l ∧ ∀ ad, a = some ad → B ≤ ad.block := by
  obtain ⟨_, ⟨rfl, h0⟩ | ⟨g, cap, cur, rfl, hg, hbk, hc, _, _, ht⟩⟩ := h
  · exact ⟨none, 0, by rw [h0], ⟨by omega, .inl (List.length_eq_zero_iff.1 h0)⟩, fun ad e => by cases e⟩
  · refine ⟨_, cap, rfl, ⟨hc, .inr ⟨g, 0, rfl, (Array.getElem?_eq_some_iff.1 hbk).1, fun j x hx i u hu => ?_⟩⟩, fun ad e => by cases e; exact hg⟩
    have hj : j < l.length := (List.getElem?_eq_some_iff.1 hx).1
    have h5 := flat_at l hC j i x u hx hu
    have hlt : j * C + i < l.length * C := by
      have := (List.getElem?_eq_some_iff.1 h5).1
      rwa [flat_len l hC] at this
    have h4 := congrArg (·[j * C + i]?) ht
    simp only [List.getElem?_take, if_pos hlt, h5, Array.getElem?_toList] at h4
    simp [World.cell?, hbk, h4]
/-- A walk that is told to stand still here. -/
def Stopped (p : Prop) : Prop := p
theorem Stopped.go {p : Prop} (h : Stopped p) : p := h
theorem own_blk {w : World} {B : Nat} {e : TypeId} {C : Nat} {v : Value} {n : Nat} {xs : List Value} (h : w.ownsRow B e C v n xs) : ∀ k, v.ownBlock = some k → B ≤ k := fun k hk => by
  obtain ⟨_, ⟨rfl, _⟩ | ⟨g, cap, cur, rfl, hg, _⟩⟩ := h
  · cases hk
  · simp [Value.ownBlock] at hk
    omega
end Go.Proofs.Ytkannambildnoaa

namespace Go.Proofs.Ytkannambildnoaa
open Go.RowKit

/-- What was there in w0 is as it was. -/
def OldC (w0 w : World) : Prop := Below w0.heap.size w0 w
theorem OldC.self (w0 : World) : OldC w0 w0 := Below.refl _ _
theorem oldC_forall (w0 : World) (p : Prop) : (∀ w, OldC w0 w → p) = p := propext ⟨fun h => h w0 (OldC.self w0), fun h _ _ => h⟩
theorem OldC.then {w0 w w' : World} (h : OldC w0 w) (hb : Below w.heap.size w w') : OldC w0 w' := Below.trans h (hb.mono (Below.size h))
theorem wp_region_old {P : Program} {id : Nat} {Q : Exit → Act → World → Prop} {a : Act} {w : World} {l : List Oper} (hm : P.follows .mixedOrders = true) (hB : Region.lexB .any l.toArray = true)
    (h : wpQuiet P l.toArray (OldC w) (fun a' => ∀ w', OldC w w' → Q .normal a' w') l a) : (Code.region id l.toArray true).wp P Q a w :=
  wp_region_quiet (C := OldC w) hm hB ((Below.refl w.heap.size w).drew) (by simpa using h)
/-- An operation that yields one value in every world in which what was there is as it was. -/
theorem old_eq {P : Program} {o : Oper} {a : Act} {w0 : World} {K : Act → Prop} {v : Value} (h : ∀ w, OldC w0 w → (execOp a.eval o).run P w = .ok (.value v) w) : Oper.quiet P o a (OldC w0) K = K (a.put o.dst v) := by
  apply propext
  constructor
  · rintro ⟨u, h1, h2⟩
    have := h1 w0 (OldC.self w0)
    unfold Oper.quietAt at this
    rw [h w0 (OldC.self w0)] at this
    obtain ⟨_, rfl⟩ := this
    exact h2
  · intro hk
    exact ⟨v, fun w hw => by unfold Oper.quietAt; rw [h w hw]; exact ⟨rfl, rfl⟩, hk⟩
end Go.Proofs.Ytkannambildnoaa

namespace Go.Proofs.Ytkannambildnoaa
open Go.RowKit

/-- A number lies there; it. -/
def IsC1 (k : IntKind) (w : World) : Value → Prop
  | .pointer (some ⟨b, o, none⟩) => ∃ v, w.cell? ⟨b, o, none⟩ = some (.int k v)
  | _ => False
def c1V (w : World) : Value → Value
  | .pointer (some p) => (w.cell? p).getD undef
  | _ => undef
theorem isC1_ptr (k : IntKind) (w : World) (b o : Nat) : IsC1 k w (.pointer (some ⟨b, o, none⟩)) = ∃ v, w.cell? ⟨b, o, none⟩ = some (.int k v) := rfl
theorem c1V_ptr (w : World) (p : Addr) : c1V w (.pointer (some p)) = (w.cell? p).getD undef := rfl
theorem old_ldi {d : Option Tmp} {ty : TypeId} {pos : String} {af : Array Edge} {g : Option (Nat × Bool)} {x : Operand} {a : Act} {w0 : World} {K : Act → Prop} (h : IsC1 .i64 w0 (a.eval x)) :
    Oper.quiet Try.prog { dst := d, op := .load 3 x, type := ty, pos := pos, after := af, guard := g } a (OldC w0) K = K (a.put d (c1V w0 (a.eval x))) := by
  refine old_eq fun w hw => ?_
  have hl : (Instr.loadAt 3 (a.eval x)).run Try.prog w = .ok (c1V w0 (a.eval x)) w := by
    match a.eval x, h with
    | .pointer (some ⟨b, o, none⟩), ⟨v, hv⟩ =>
      have h2 := (Below.cell hw (p := ⟨b, o, none⟩) (World.block_lt_of_cell? w0 _ hv)).trans hv
      rw [c1V_ptr, hv]
      simp [go_sem, h2]
  unfold execOp
  simp only [Sem.run_bind, Sem.run_pure, Result.andThen_ok, hl]
theorem old_ldu {d : Option Tmp} {ty : TypeId} {pos : String} {af : Array Edge} {g : Option (Nat × Bool)} {x : Operand} {a : Act} {w0 : World} {K : Act → Prop} (h : IsC1 .u32 w0 (a.eval x)) :
    Oper.quiet Try.prog { dst := d, op := .load 87 x, type := ty, pos := pos, after := af, guard := g } a (OldC w0) K = K (a.put d (c1V w0 (a.eval x))) := by
  refine old_eq fun w hw => ?_
  have hl : (Instr.loadAt 87 (a.eval x)).run Try.prog w = .ok (c1V w0 (a.eval x)) w := by
    match a.eval x, h with
    | .pointer (some ⟨b, o, none⟩), ⟨v, hv⟩ =>
      have h2 := (Below.cell hw (p := ⟨b, o, none⟩) (World.block_lt_of_cell? w0 _ hv)).trans hv
      rw [c1V_ptr, hv]
      simp [go_sem, h2]
  unfold execOp
  simp only [Sem.run_bind, Sem.run_pure, Result.andThen_ok, hl]
/-- A text lies there. -/
def IsS1 (w : World) : Value → Prop
  | .pointer (some ⟨b, o, none⟩) => ∃ v, w.cell? ⟨b, o, none⟩ = some (.string v)
  | _ => False
theorem isS1_ptr (w : World) (b o : Nat) : IsS1 w (.pointer (some ⟨b, o, none⟩)) = ∃ v, w.cell? ⟨b, o, none⟩ = some (.string v) := rfl
theorem old_lds {d : Option Tmp} {ty : TypeId} {pos : String} {af : Array Edge} {g : Option (Nat × Bool)} {x : Operand} {a : Act} {w0 : World} {K : Act → Prop} (h : IsS1 w0 (a.eval x)) :
    Oper.quiet Try.prog { dst := d, op := .load 9 x, type := ty, pos := pos, after := af, guard := g } a (OldC w0) K = K (a.put d (c1V w0 (a.eval x))) := by
  refine old_eq fun w hw => ?_
  have hl : (Instr.loadAt 9 (a.eval x)).run Try.prog w = .ok (c1V w0 (a.eval x)) w := by
    match a.eval x, h with
    | .pointer (some ⟨b, o, none⟩), ⟨v, hv⟩ =>
      have h2 := (Below.cell hw (p := ⟨b, o, none⟩) (World.block_lt_of_cell? w0 _ hv)).trans hv
      rw [c1V_ptr, hv]
      simp [go_sem, h2]
  unfold execOp
  simp only [Sem.run_bind, Sem.run_pure, Result.andThen_ok, hl]
end Go.Proofs.Ytkannambildnoaa

namespace Go.Proofs.Ytkannambildnoaa
open Go.RowKit

/-- An entry in memory. -/
def EnAt (w : World) (b : Nat) (p : ByteArray) (k : Int) (d : ByteArray) : Prop := w.heap[b]? = some (.cells #[.string p, .int .i64 k, .string d] 34 (0, 0))
theorem cell_of8 {w : World} {b : Nat} {cs : Array Value} {t : TypeId} (h : w.heap[b]? = some (.cells cs t (0, 0))) {j : Nat} {v : Value} (hj : cs[j]? = some v) : w.cell? ⟨b, j, none⟩ = some v ∧ w.frozen? ⟨b, j, none⟩ = false := by
  simp [World.cell?, World.frozen?, h, hj]
theorem set_of8 {w : World} {b : Nat} {cs : Array Value} {t : TypeId} (h : w.heap[b]? = some (.cells cs t (0, 0))) (j : Nat) (v : Value) : (w.setCell ⟨b, j, none⟩ v).heap[b]? = some (.cells (cs.setIfInBounds j v) t (0, 0)) := by
  simp [World.setCell, Array.getElem?_modify, h]
section
variable {w w' : World} {b : Nat} {p d : ByteArray} {k : Int}
theorem enAt_new (w : World) (p : ByteArray) (k : Int) (d : ByteArray) : EnAt (w.alloc (.cells #[.string p, .int .i64 k, .string d] 34)) w.heap.size p k d := heap_alloc_new _ _
theorem EnAt.lt (h : EnAt w b p k d) : b < w.heap.size := (Array.getElem?_eq_some_iff.1 h).1
theorem EnAt.of (h : EnAt w b p k d) (hb : w'.heap[b]? = w.heap[b]?) : EnAt w' b p k d := hb.trans h
theorem EnAt.below (h : EnAt w b p k d) (hb : Below w.heap.size w w') : EnAt w' b p k d := h.of (hb.block b h.lt)
theorem EnAt.c0 (h : EnAt w b p k d) : w.cell? ⟨b, 0, none⟩ = some (.string p) := (cell_of8 h rfl).1
theorem EnAt.c1 (h : EnAt w b p k d) : w.cell? ⟨b, 1, none⟩ = some (.int .i64 k) := (cell_of8 h rfl).1
theorem EnAt.c2 (h : EnAt w b p k d) : w.cell? ⟨b, 2, none⟩ = some (.string d) := (cell_of8 h rfl).1
theorem EnAt.f0 (h : EnAt w b p k d) : w.frozen? ⟨b, 0, none⟩ = false := (cell_of8 h (j := 0) rfl).2
theorem EnAt.f1 (h : EnAt w b p k d) : w.frozen? ⟨b, 1, none⟩ = false := (cell_of8 h (j := 1) rfl).2
theorem EnAt.f2 (h : EnAt w b p k d) : w.frozen? ⟨b, 2, none⟩ = false := (cell_of8 h (j := 2) rfl).2
theorem EnAt.range (h : EnAt w b p k d) : w.rangeAt b 0 [.string p, .int .i64 k, .string d] := fun j v hv => by
  rw [Nat.zero_add]
  exact (cell_of8 h (by simpa using hv)).1
theorem enSize : (Try.prog.info? 34).map (·.size) = some 3 := by kernel_rfl
theorem lv_en (h : EnAt w b p k d) : (loadVar 34 ⟨b, 0, none⟩).run Try.prog w = .ok (entV p k d) w :=
  run_loadVar_mid w b 0 34 _ _ h.range Try.underlying34 rfl (by rw [enSize]; rfl)
theorem ld_en (h : EnAt w b p k d) : (Instr.loadAt 34 (.pointer (some ⟨b, 0, none⟩))).run Try.prog w = .ok (entV p k d) w :=
  run_loadAt_mid w b 0 34 _ _ h.range Try.underlying34 rfl (by rw [enSize]; rfl)
/-- What a store of a whole entry leaves. -/
abbrev enSet (w : World) (b : Nat) (p : ByteArray) (k : Int) (d : ByteArray) : World := ((w.setCell ⟨b, 0, none⟩ (.string p)).setCell ⟨b, 1, none⟩ (.int .i64 k)).setCell ⟨b, 2, none⟩ (.string d)
theorem EnAt.set (h : EnAt w b p k d) (p' : ByteArray) (k' : Int) (d' : ByteArray) : EnAt (enSet w b p' k' d') b p' k' d' := by
  have h1 := set_of8 h 0 (.string p')
  have h2 := set_of8 h1 1 (.int .i64 k')
  exact set_of8 h2 2 (.string d')
theorem below_en3 {B : Nat} {a : World} (h : Below B a w) (hb : B ≤ b) (p : ByteArray) (k : Int) (d : ByteArray) : Below B a (enSet w b p k d) := ((h.setCell (p := ⟨b, 0, none⟩) hb _).setCell (p := ⟨b, 1, none⟩) hb _).setCell (p := ⟨b, 2, none⟩) hb _
end
end Go.Proofs.Ytkannambildnoaa

namespace Go.Proofs.Ytkannambildnoaa
open Go.RowKit

/-- An entry's cells. -/
abbrev enc (e : Ent) : List Value := [.string e.1, .int .i64 e.2.1, .string e.2.2]
/-- An entry as a value. -/
abbrev enV (e : Ent) : Value := entV e.1 e.2.1 e.2.2
/-- A slice of entries in memory. -/
abbrev Ents (w : World) (a : Option Addr) (cap : Nat) (l : List Ent) : Prop := RowN 3 enc w a cap l
theorem ents_nil (w : World) (a : Option Addr) (cap : Nat) : Ents w a cap [] := ⟨by simp, .inl rfl⟩
/-- An element's cells. -/
structure EnCells (w : World) (b o : Nat) (e : Ent) : Prop where
  c0 : w.cell? ⟨b, o, none⟩ = some (.string e.1)
  c1 : w.cell? ⟨b, o + 1, none⟩ = some (.int .i64 e.2.1)
  c2 : w.cell? ⟨b, o + 2, none⟩ = some (.string e.2.2)
theorem enCells_of {w : World} {b o : Nat} {e : Ent} (h : w.rangeAt b o (enc e)) : EnCells w b o e := ⟨h 0 _ rfl, h 1 _ rfl, h 2 _ rfl⟩
theorem Ents.at {w w' : World} {a : Option Addr} {cap : Nat} {l : List Ent} (h : Ents w a cap l) (hb : Below w.heap.size w w') {k : Nat} (hk : k < l.length) :
    ∃ b off, a = some ⟨b, off, none⟩ ∧ b < w.heap.size ∧ EnCells w' b (off + k * 3) l[k] := by
  rcases h.2 with h0 | ⟨b, off, rfl, hlt, hc⟩
  · rw [h0] at hk; simp at hk
  · exact ⟨b, off, rfl, hlt, enCells_of (rangeAt_below (hc k l[k] (List.getElem?_eq_getElem hk)) hb hlt)⟩
/-- A slice of entries that a call made itself. -/
abbrev OwnE (w : World) (B : Nat) (v : Value) (l : List Ent) : Prop := w.ownsRow B 34 3 v l.length (l.flatMap enc)
theorem ownE_nil (w : World) (B : Nat) : OwnE w B (.slice none 0 0) [] := ⟨by simp, .inl ⟨rfl, rfl⟩⟩
theorem infoEn : (Try.prog.info? 34).map (fun i => (i.zero, i.size, i.bytes)) = some (some (entV ⟨#[]⟩ 0 ⟨#[]⟩), 3, 40) := by kernel_rfl
theorem flat_get (l : List Ent) (j i : Nat) (hi : i < 3) : (l.flatMap enc)[j * 3 + i]? = (l[j]?).bind fun e => (enc e)[i]? := by
  induction l generalizing j with
  | nil => simp
  | cons x r ih =>
    rw [List.flatMap_cons]
    cases j with
    | zero =>
      rw [List.getElem?_append_left (by simp; omega)]
      simp
    | succ j =>
      rw [List.getElem?_append_right (by simp; omega)]
      have := ih j
      simp only [List.length_cons, List.length_nil, List.getElem?_cons_succ] at this ⊢
      rw [← this]
      congr 1
      omega
theorem ents_of_own {w : World} {B : Nat} {v : Value} {l : List Ent} (h : OwnE w B v l) : ∃ a cap, v = .slice a l.length cap ∧ Ents w a cap l := by
  obtain ⟨_, ⟨rfl, h0⟩ | ⟨g, cap, cur, rfl, hg, hbk, hc, _, _, ht⟩⟩ := h
  · exact ⟨none, 0, by rw [h0], by omega, .inl (List.length_eq_zero_iff.1 h0)⟩
  · refine ⟨_, cap, rfl, hc, .inr ⟨g, 0, rfl, (Array.getElem?_eq_some_iff.1 hbk).1, fun j x hx i v hv => ?_⟩⟩
    have hi : i < 3 := (List.getElem?_eq_some_iff.1 hv).1
    have hj : j < l.length := (List.getElem?_eq_some_iff.1 hx).1
    have h1 := flat_get l j i hi
    rw [hx, Option.bind_some, hv, ← ht, List.getElem?_take_of_lt (by omega), Array.getElem?_toList] at h1
    rw [Lib.cell_of_heap hbk]
    simpa using h1
theorem ownE_gen {w w' : World} {B : Nat} {v : Value} {l : List Ent} (h : OwnE w B v l) (hb : ∀ k, v.ownBlock = some k → w'.heap[k]? = w.heap[k]?) : OwnE w' B v l := by
  obtain ⟨h1, ⟨rfl, h2⟩ | ⟨g, cap, cur, rfl, h3, h4, h5⟩⟩ := h
  · exact ⟨h1, .inl ⟨rfl, h2⟩⟩
  · exact ⟨h1, .inr ⟨g, cap, cur, rfl, h3, (hb g rfl).trans h4, h5⟩⟩
theorem ownE_blk {w : World} {B : Nat} {v : Value} {l : List Ent} (h : OwnE w B v l) : ∀ k, v.ownBlock = some k → B ≤ k ∧ k < w.heap.size := fun k hk => by
  obtain ⟨_, ⟨rfl, h2⟩ | ⟨g, cap, cur, rfl, h3, h4, _⟩⟩ := h
  · cases hk
  · obtain rfl : g = k := by simpa [Value.ownBlock] using hk
    exact ⟨h3, (Array.getElem?_eq_some_iff.1 h4).1⟩
theorem OwnE.below {w w' : World} {B : Nat} {v : Value} {l : List Ent} (h : OwnE w B v l) (hb : Below w.heap.size w w') : OwnE w' B v l := ownE_gen h fun k hk => hb.block k (ownE_blk h k hk).2
/-- An entry at the end of a slice that a call made itself, the entry in a new block. -/
theorem wl_putE {w : World} {ops : Array Oper} {rest : List Oper} {o : Oper} {a : Act} {Q : Exit → Act → World → Prop} (hgd : o.guard = none) (s x : Operand)
    (ho : o.op = .call { callee := .builtin .append, args := #[s, x], argTypes := #[23, 23] }) (B : Nat) (v : Value) (l : List Ent) (e : Ent) (hs : a.eval s = v) (hown : OwnE w B v l) (hB : B ≤ w.heap.size)
    (M : Nat) (hx : a.eval x = .slice (some ⟨M, 0, none⟩) 1 1) (hM : EnAt w M e.1 e.2.1 e.2.2) (hl : l.length ≤ 1000)
    (h : ∀ v' w', OwnE w' B v' (l ++ [e]) → w.grownBy w' v.ownBlock → wpList Try.prog ops Q rest (a.put o.dst v') w') : wpList Try.prog ops Q (o :: rest) a w := by
  obtain ⟨ie, hie, hz, hsz, hby⟩ := info_parts infoEn
  refine wl_append_any hgd s x 23 ho B 34 ie _ 3 40 Try.underlying23 hie hz hsz hby rfl (by decide) v l.length _ hs hown (some ⟨M, 0, none⟩) 1 1 (enc e) hx rfl ?_ (fun e => by cases e) ?_ (by unfold maxLen; omega) (by omega) hB ?_
  · intro ad e1 j u hu
    cases e1
    rw [Addr.add_lit]
    exact hM.range j u hu
  · intro u hu
    rcases List.mem_cons.1 hu with rfl | hu
    · rfl
    rcases List.mem_cons.1 hu with rfl | hu
    · rfl
    rcases List.mem_cons.1 hu with rfl | hu
    · rfl
    cases hu
  · intro v' w' h1 h2
    refine h v' w' ?_ h2
    unfold OwnE
    rw [List.length_append, List.flatMap_append]
    simpa using h1
end Go.Proofs.Ytkannambildnoaa

namespace Go.Proofs.Ytkannambildnoaa
open Go.RowKit

theorem toList_inj {a b : ByteArray} : a.toList = b.toList ↔ a = b := by
  rw [Lib.toList_data, Lib.toList_data]
  exact ⟨ba_ext, fun h => by rw [h]⟩
theorem ent_eql (w : World) (e f : Ent) : (binOp .eql 34 (enV e) (enV f)).run Try.prog w = .ok (.bool (decide (e = f))) w := by
  have hd : decide (e = f) = (decide (e.1 = f.1) && decide (e.2.1 = f.2.1) && decide (e.2.2 = f.2.2)) := by
    rw [Bool.eq_iff_iff, Bool.and_eq_true, Bool.and_eq_true, decide_eq_true_iff, decide_eq_true_iff, decide_eq_true_iff, decide_eq_true_iff]
    constructor
    · rintro rfl
      exact ⟨⟨rfl, rfl⟩, rfl⟩
    · rintro ⟨⟨h1, h2⟩, h3⟩
      exact Prod.ext h1 (Prod.ext h2 h3)
  rw [hd]
  simp [go_sem]
  simp only [toList_inj]
  by_cases h1 : e.1 = f.1
  · by_cases h2 : e.2.1 = f.2.1
    · by_cases h3 : e.2.2 = f.2.2
      · simp [h1, h2, h3]
      · simp [h1, h2, h3]
    · simp [h1, h2]
  · simp [h1]
theorem ent_neq (w : World) (e f : Ent) : (binOp .neq 34 (enV e) (enV f)).run Try.prog w = .ok (.bool (!decide (e = f))) w := by
  have h := ent_eql w e f
  rw [run_eql_struct] at h
  rw [run_neq_struct]
  generalize (Op.equalIn 10000 34 (.agg #[.string e.1, .int .i64 e.2.1, .string e.2.2]) (.agg #[.string f.1, .int .i64 f.2.1, .string f.2.2])).run Try.prog w = r at h
  cases r with
  | ok b w' =>
    simp only [Result.andThen_ok] at h ⊢
    injection h with h1 h2
    injection h1 with h1
    rw [h1, h2]
  | halt x w' => cases h
/-- An entry's value. -/
def IsEv (v : Value) : Prop := ∃ e : Ent, v = enV e
def entOf (v : Value) : Ent := match v with
  | .agg ⟨[.string p, .int _ k, .string d]⟩ => (p, k, d)
  | _ => (⟨#[]⟩, 0, ⟨#[]⟩)
/-- Two entries' values alike? -/
def evEq (v u : Value) : Bool := decide (entOf v = entOf u)
theorem isEv_agg (p : ByteArray) (k : Int) (d : ByteArray) : IsEv (.agg #[.string p, .int .i64 k, .string d]) = True := eq_true ⟨(p, k, d), rfl⟩
theorem evEq_agg (p q : ByteArray) (k m : Int) (d f : ByteArray) : evEq (.agg #[.string p, .int .i64 k, .string d]) (.agg #[.string q, .int .i64 m, .string f]) = decide (((p, k, d) : Ent) = (q, m, f)) := rfl
theorem eta_ent (e : Ent) : ((e.1, e.2.1, e.2.2) : Ent) = e := rfl
theorem guardE_en (op : BinOp) (w : World) (x y : Operand) (c c' : Array Value) : (eqGuard op 34 x y (.agg c) (.agg c')).run Try.prog w = .ok () w := run_eqGuard_agg _ op 34 x y c c' (by kernel_rfl)
theorem xeq_en {d : Option Tmp} {ty t2 : TypeId} {pos : String} {af : Array Edge} {g : Option (Nat × Bool)} {x y : Operand} {a : Act} {w : World} (hx : IsEv (a.eval x)) (hy : IsEv (a.eval y)) :
    (execOp a.eval { dst := d, op := .binOp .eql 34 x y t2, type := ty, pos := pos, after := af, guard := g }).run Try.prog w = .ok (.value (.bool (evEq (a.eval x) (a.eval y)))) w := by
  obtain ⟨e, h1⟩ := hx
  obtain ⟨f, h2⟩ := hy
  have h := ent_eql w e f
  unfold execOp
  rw [h1, h2, evEq_agg, eta_ent, eta_ent]
  simp only [Sem.run_bind, Sem.run_pure, Result.andThen_ok, h1, h2, guardE_en, h]
theorem xne_en {d : Option Tmp} {ty t2 : TypeId} {pos : String} {af : Array Edge} {g : Option (Nat × Bool)} {x y : Operand} {a : Act} {w : World} (hx : IsEv (a.eval x)) (hy : IsEv (a.eval y)) :
    (execOp a.eval { dst := d, op := .binOp .neq 34 x y t2, type := ty, pos := pos, after := af, guard := g }).run Try.prog w = .ok (.value (.bool (!evEq (a.eval x) (a.eval y)))) w := by
  obtain ⟨e, h1⟩ := hx
  obtain ⟨f, h2⟩ := hy
  have h := ent_neq w e f
  unfold execOp
  rw [h1, h2, evEq_agg, eta_ent, eta_ent]
  simp only [Sem.run_bind, Sem.run_pure, Result.andThen_ok, h1, h2, guardE_en, h]
section
variable {d : Option Tmp} {ty t2 : TypeId} {pos : String} {af : Array Edge} {g : Option (Nat × Bool)} {x y : Operand} {a : Act} {w0 : World} {K : Act → Prop} {KW : Act → World → Prop} {Q : Exit → Act → World → Prop}
theorem quiet_eq9 {o : Oper} {C : World → Prop} {v : Value} (h0 : C w0) (h : ∀ w, C w → (execOp a.eval o).run Try.prog w = .ok (.value v) w) : Oper.quiet Try.prog o a C K = K (a.put o.dst v) := by
  apply propext
  constructor
  · rintro ⟨u, h1, h2⟩
    have := h1 w0 h0
    unfold Oper.quietAt at this
    rw [h w0 h0] at this
    obtain ⟨_, rfl⟩ := this
    exact h2
  · intro hk
    exact ⟨v, fun w hw => by unfold Oper.quietAt; rw [h w hw]; exact ⟨rfl, rfl⟩, hk⟩
theorem qeq_en (hx : IsEv (a.eval x)) (hy : IsEv (a.eval y)) : Oper.quiet Try.prog { dst := d, op := .binOp .eql 34 x y t2, type := ty, pos := pos, after := af, guard := g } a (fun w' => ∃ n, w' = w0.drewN n) K = K (a.put d (.bool (evEq (a.eval x) (a.eval y)))) :=
  quiet_eq9 (w0 := w0) ⟨0, rfl⟩ fun _ _ => xeq_en hx hy
theorem qne_en (hx : IsEv (a.eval x)) (hy : IsEv (a.eval y)) : Oper.quiet Try.prog { dst := d, op := .binOp .neq 34 x y t2, type := ty, pos := pos, after := af, guard := g } a (fun w' => ∃ n, w' = w0.drewN n) K = K (a.put d (.bool (!evEq (a.eval x) (a.eval y)))) :=
  quiet_eq9 (w0 := w0) ⟨0, rfl⟩ fun _ _ => xne_en hx hy
theorem old_eqen (hx : IsEv (a.eval x)) (hy : IsEv (a.eval y)) : Oper.quiet Try.prog { dst := d, op := .binOp .eql 34 x y t2, type := ty, pos := pos, after := af, guard := g } a (OldC w0) K = K (a.put d (.bool (evEq (a.eval x) (a.eval y)))) :=
  quiet_eq9 (OldC.self w0) fun _ _ => xeq_en hx hy
theorem old_neen (hx : IsEv (a.eval x)) (hy : IsEv (a.eval y)) : Oper.quiet Try.prog { dst := d, op := .binOp .neq 34 x y t2, type := ty, pos := pos, after := af, guard := g } a (OldC w0) K = K (a.put d (.bool (!evEq (a.eval x) (a.eval y)))) :=
  quiet_eq9 (OldC.self w0) fun _ _ => xne_en hx hy
theorem eqw_en (hx : IsEv (a.eval x)) (hy : IsEv (a.eval y)) : Oper.wp Try.prog { dst := d, op := .binOp .eql 34 x y t2, type := ty, pos := pos, after := af, guard := g } a w0 KW Q = KW (a.put d (.bool (evEq (a.eval x) (a.eval y)))) w0 := by
  unfold Oper.wp
  rw [xeq_en hx hy]
  rfl
theorem new_en (hx : IsEv (a.eval x)) (hy : IsEv (a.eval y)) : Oper.wp Try.prog { dst := d, op := .binOp .neq 34 x y t2, type := ty, pos := pos, after := af, guard := g } a w0 KW Q = KW (a.put d (.bool (!evEq (a.eval x) (a.eval y)))) w0 := by
  unfold Oper.wp
  rw [xne_en hx hy]
  rfl
end
end Go.Proofs.Ytkannambildnoaa

namespace Go.Proofs.Ytkannambildnoaa
open Go.RowKit

/-- An entry lies there; it. -/
def IsE3 (w : World) : Value → Prop
  | .pointer (some ⟨b, o, none⟩) => (∃ p, w.cell? ⟨b, o, none⟩ = some (.string p)) ∧ (∃ k, w.cell? ⟨b, o + 1, none⟩ = some (.int .i64 k)) ∧ ∃ d, w.cell? ⟨b, o + 2, none⟩ = some (.string d)
  | _ => False
def e3V (w : World) : Value → Value
  | .pointer (some ⟨b, o, none⟩) => .agg #[(w.cell? ⟨b, o, none⟩).getD undef, (w.cell? ⟨b, o + 1, none⟩).getD undef, (w.cell? ⟨b, o + 2, none⟩).getD undef]
  | _ => undef
theorem isE3_ptr (w : World) (b o : Nat) : IsE3 w (.pointer (some ⟨b, o, none⟩)) = ((∃ p, w.cell? ⟨b, o, none⟩ = some (.string p)) ∧ (∃ k, w.cell? ⟨b, o + 1, none⟩ = some (.int .i64 k)) ∧ ∃ d, w.cell? ⟨b, o + 2, none⟩ = some (.string d)) := rfl
theorem e3V_ptr (w : World) (b o : Nat) : e3V w (.pointer (some ⟨b, o, none⟩)) = .agg #[(w.cell? ⟨b, o, none⟩).getD undef, (w.cell? ⟨b, o + 1, none⟩).getD undef, (w.cell? ⟨b, o + 2, none⟩).getD undef] := rfl
theorem ld_e3 {w : World} {b o : Nat} {e : Ent} (h : EnCells w b o e) : (Instr.loadAt 34 (.pointer (some ⟨b, o, none⟩))).run Try.prog w = .ok (enV e) w := by
  refine (fun hr : w.rangeAt b o (enc e) => run_loadAt_mid w b o 34 _ _ hr Try.underlying34 rfl (by rw [enSize]; rfl)) ?_
  intro j v hv
  match j, hv with
  | 0, hv => obtain rfl : .string e.1 = v := by simpa using hv
             exact h.c0
  | 1, hv => obtain rfl : .int .i64 e.2.1 = v := by simpa using hv
             exact h.c1
  | 2, hv => obtain rfl : .string e.2.2 = v := by simpa using hv
             exact h.c2
theorem old_lde3 {d : Option Tmp} {ty : TypeId} {pos : String} {af : Array Edge} {g : Option (Nat × Bool)} {x : Operand} {a : Act} {w0 : World} {K : Act → Prop} (h : IsE3 w0 (a.eval x)) :
    Oper.quiet Try.prog { dst := d, op := .load 34 x, type := ty, pos := pos, after := af, guard := g } a (OldC w0) K = K (a.put d (e3V w0 (a.eval x))) := by
  refine old_eq fun w hw => ?_
  have hl : (Instr.loadAt 34 (a.eval x)).run Try.prog w = .ok (e3V w0 (a.eval x)) w := by
    match a.eval x, h with
    | .pointer (some ⟨b, o, none⟩), ⟨⟨p, hp⟩, ⟨k, hk⟩, ⟨d, hd⟩⟩ =>
      rw [e3V_ptr, hp, hk, hd]
      have hlt := World.block_lt_of_cell? w0 _ hp
      exact ld_e3 (e := (p, k, d)) ⟨(Below.cell hw (p := ⟨b, o, none⟩) hlt).trans hp, (Below.cell hw (p := ⟨b, o + 1, none⟩) hlt).trans hk, (Below.cell hw (p := ⟨b, o + 2, none⟩) hlt).trans hd⟩
  unfold execOp
  simp only [Sem.run_bind, Sem.run_pure, Result.andThen_ok, hl]
end Go.Proofs.Ytkannambildnoaa

namespace Go.Proofs.Ytkannambildnoaa
open Go.RowKit

theorem Row.at9 {w w' : World} {a : Option Addr} {cap : Nat} {ns : List ByteArray} (h : Row w a cap ns) (hb : Below w.heap.size w w') {k : Nat} (hk : k < ns.length) : ∃ b off, a = some ⟨b, off, none⟩ ∧ w'.cell? ⟨b, off + k, none⟩ = some (.string ns[k]) := by
  rcases h.2 with h0 | ⟨b, off, rfl, hlt, hc⟩
  · rw [h0] at hk; simp at hk
  · exact ⟨b, off, rfl, (hb.cell (p := ⟨b, off + k, none⟩) hlt).trans (hc k ns[k] (List.getElem?_eq_getElem hk))⟩
theorem lists_take (ns : List ByteArray) (k : Nat) (h : k < ns.length) : jn (lists (ns.take (k + 1))) = jn (lists (ns.take k)) ++ (47 :: ns[k].data.toList) := by
  rw [List.take_add_one, List.getElem?_eq_getElem h, lists_append, jn_append]
  simp [lists, jn]
set_option maxRecDepth 10000 in
set_option maxHeartbeats 1000000 in
theorem refJoin9 (ns : List ByteArray) (a : Option Addr) (cap : Nat) (w : World) (h : Row w a cap ns) (h6 : ns.length ≤ 6) (h8 : ∀ x ∈ ns, x.size ≤ 8) : Calls Try.prog 43 #[.slice a ns.length cap] w fun e w' => e = .returned (.string (bs (pth (lists ns)))) ∧ w = w' := by
  have HE := Lib.hid h
  have H6 := Lib.hid h6
  have H8 := Lib.hid h8
  clear h h6 h8
  go_enter Try.func43, Try.ntmps43
  go_wp2
  go_loopg [3, 4] ns.length (fun g s i wx => ∃ (k : Nat) (t : ByteArray), s = .string t ∧ i = .int .i64 (k : Int) ∧ k + g = ns.length ∧ Hid (t.data.toList = jn (lists (ns.take k)) ∧ t.size ≤ 9 * k) ∧ w = wx)
  case atStart => exact ⟨0, ⟨#[]⟩, rfl, rfl, by omega, ⟨by simp [lists, jn], Nat.le_refl 0⟩, rfl⟩
  case round =>
    obtain ⟨k, t, rfl, rfl, hk, HI, rfl⟩ := hrel
    by_cases hlt : k < ns.length
    · have hlt' : (k : Int) < (ns.length : Int) := by omega
      obtain ⟨b, off, rfl, hc⟩ := HE.out.at9 (Below.refl _ _) hlt
      have HT := Lib.hid (lists_take ns k hlt)
      have HS := Lib.hid (H8.out _ (List.getElem_mem hlt))
      obtain ⟨x, hx⟩ : ∃ x, ns[k] = x := ⟨_, rfl⟩
      rw [hx] at hc HT HS
      clear hx
      have z1 : ¬ 9223372036854775807 < t.size + 1 := by have := HI.out.2; have := H6.out; omega
      have z2 : ¬ 9223372036854775807 < t.size + 1 + x.size := by have := HI.out.2; have := H6.out; have := HS.out; omega
      have hw : IntKind.i64.wrap ((k : Int) + 1) = (k : Int) + 1 := IntWalk.i64_in _ (by have := H6.out; omega)
      go_wp2
      go_roundg (gk - 1)
      case measure => omega
      case rel =>
        refine ⟨k + 1, _, rfl, by simp, by omega, ⟨?_, ?_⟩, rfl⟩
        · rw [HT.out, ← HI.out.1]
          simp [ByteArray.data_append]
        · simp only [ByteArray.size_append]
          have := HI.out.2
          have := HS.out
          have : (⟨#[47]⟩ : ByteArray).size = 1 := rfl
          omega
    · have hlt' : ¬ (k : Int) < (ns.length : Int) := by omega
      have HT := Lib.hid (show t.data.toList = jn (lists ns) by
        rw [HI.out.1, List.take_of_length_le (by omega)])
      by_cases h0 : ns = []
      · have hE : t = ⟨#[]⟩ := by
          apply ba_ext
          rw [HT.out, h0]
          rfl
        subst hE
        have HV := Lib.hid (show bs (pth (lists ns)) = ⟨#[47]⟩ by rw [h0]; rfl)
        clear h0
        go_wp2
        go_ret
        exact ⟨by rw [HV.out]; rfl, rfl⟩
      · have hl0 : lists ns ≠ [] := by simpa [lists] using h0
        obtain ⟨r, hr⟩ := jn_ne hl0
        have hE : t.toList.isEmpty = false := by
          rw [Lib.toList_data, HT.out, hr]
          rfl
        have HV := Lib.hid (show bs (pth (lists ns)) = t by
          apply ba_ext
          rw [bs_list, HT.out, pth, if_neg hl0])
        clear h0 hl0 hr
        go_wp2
        go_ret
        exact ⟨by rw [HV.out]; rfl, rfl⟩
theorem row_init {w : World} {a : Option Addr} {cap : Nat} {ns : List ByteArray} (h : Row w a cap ns) : Row w a cap ns.dropLast := by
  obtain ⟨h1, h2⟩ := h
  refine ⟨by simp; omega, ?_⟩
  rcases h2 with rfl | ⟨b, off, rfl, hlt, hc⟩
  · exact .inl rfl
  · exact .inr ⟨b, off, rfl, hlt, fun j x hx => hc j x (by
      rw [List.getElem?_dropLast] at hx
      split at hx
      · exact hx
      · cases hx)⟩
theorem lists_prts9 (p : ByteArray) : lists (prts p) = pcs p.data.toList := by
  unfold lists prts
  rw [List.map_map]
  conv => rhs; rw [← List.map_id (pcs p.data.toList)]
  apply List.map_congr_left
  intro x _
  exact bs_list x
set_option maxRecDepth 10000 in
set_option maxHeartbeats 1000000 in
theorem refPar9 (p : ByteArray) (hP : isP p.data.toList) (h1 : p.data.toList ≠ [47]) (w : World) : Calls Try.prog 31 #[.string p] w fun e w' => e = .returned (.string (bs (par9 p.data.toList))) ∧ Below w.heap.size w w' := by
  have hz : p.size ≤ 100000 := by have := isP_len hP; rw [← Lib.size_eq] at this; omega
  have HC := Lib.hid (fun X => refSplit_any p hz X)
  have hnn : names p = prts p := names_pos hP
  have hn0 : pcs p.data.toList ≠ [] := mt (pcs_nil hP).1 h1
  have hl : (names p).length = (names p).dropLast.length + 1 := by
    rw [List.length_dropLast, hnn]
    have : 0 < (prts p).length := by unfold prts; rw [List.length_map]; exact List.length_pos_iff.2 hn0
    omega
  have HV := Lib.hid (show bs (pth (lists (names p).dropLast)) = bs (par9 p.data.toList) by
    rw [hnn]
    unfold par9
    rw [← lists_prts9]
    unfold lists
    rw [List.map_dropLast])
  have H8 := Lib.hid (show ∀ x ∈ (names p).dropLast, x.size ≤ 8 from fun x hx => by
    have hx := List.dropLast_subset _ hx
    rw [hnn] at hx
    unfold prts at hx
    obtain ⟨y, hy, rfl⟩ := List.mem_map.1 hx
    rw [bs_size]
    exact nm_len (hP.2.2 y hy))
  have H6 := Lib.hid (names_len p)
  obtain ⟨ns, hns⟩ : ∃ ns, (names p).dropLast = ns := ⟨_, rfl⟩
  obtain ⟨m, hm⟩ : ∃ m, (names p).length = m := ⟨_, rfl⟩
  rw [hns] at HV H8 hl
  rw [hm] at hl H6
  have HNS := Lib.hid hns
  have HM := Lib.hid hm
  have HL := Lib.hid hl
  have hw : IntKind.i64.wrap ((m : Int) - 1) = (ns.length : Int) := by rw [hl]; rw [show ((ns.length + 1 : Nat) : Int) - 1 = (ns.length : Int) by omega]; exact IntWalk.i64_in _ (by have := H6.out; omega)
  have hle : (ns.length : Int) ≤ (m : Int) := by omega
  clear hz hP h1 hnn hn0 hl hns hm
  go_enter Try.func31, Try.ntmps31
  go_wp2_with fail
  refine (HC.out _).mono ?_
  rintro e w1 ⟨a, cap, rfl, hr, hb1⟩
  rw [HM.out]
  have HB := Lib.hid hb1
  have HR := Lib.hid (show Row w1 a cap ns by have := row_init hr; rw [HNS.out] at this; exact this)
  have hcap : m ≤ cap := by have := hr.1; rw [HM.out] at this; exact this
  have hcap' : (ns.length : Int) ≤ (cap : Int) := by omega
  clear hr hb1
  go_wp2_with fail
  refine (refJoin9 ns _ _ _ HR.out (by have := H6.out; have := HL.out; omega) H8.out).mono ?_
  rintro e w2 ⟨rfl, rfl⟩
  go_wp2
  go_ret
  exact ⟨by rw [← HV.out]; rfl, HB.out⟩
end Go.Proofs.Ytkannambildnoaa

namespace Go.Proofs.Ytkannambildnoaa
open Go.RowKit

theorem below_drewX {B : Nat} {a w : World} (h : Below B a w) (q : Nat) : Below B a (w.drewN q) := ⟨h.os, h.tape, h.output, h.size, h.block⟩
theorem less_nil (l : List UInt8) : Op.bytesLess l [] = false := by cases l <;> rfl
theorem less_at {a b : List UInt8} {x y : UInt8} {i : Nat} (ha : a[i]? = some x) (hb : b[i]? = some y) : Op.bytesLess (a.drop i) (b.drop i) = (decide (x < y) || (x == y && Op.bytesLess (a.drop (i + 1)) (b.drop (i + 1)))) := by
  obtain ⟨h1, e1⟩ := List.getElem?_eq_some_iff.1 ha
  obtain ⟨h2, e2⟩ := List.getElem?_eq_some_iff.1 hb
  rw [List.drop_eq_getElem_cons h1, List.drop_eq_getElem_cons h2, e1, e2]
  rfl
theorem less_end {a b : List UInt8} {i : Nat} (h : ¬ (i < a.length ∧ i < b.length)) (ha : i ≤ a.length) (hb : i ≤ b.length) : Op.bytesLess (a.drop i) (b.drop i) = decide (a.length < b.length) := by
  by_cases h2 : i < b.length
  · have h1 : a.drop i = [] := List.drop_eq_nil_iff.2 (by omega)
    rw [h1, List.drop_eq_getElem_cons h2, decide_eq_true (by omega)]
    rfl
  · rw [show b.drop i = [] from List.drop_eq_nil_iff.2 (by omega), less_nil, decide_eq_false (by omega)]
set_option maxRecDepth 10000 in
set_option maxHeartbeats 1000000 in
theorem refLess_any (a b : ByteArray) (ha : a.size ≤ 100000) (hb : b.size ≤ 100000) (w : World) : Calls Try.prog 30 #[.string a, .string b] w fun e w' => e = .returned (.bool (Op.bytesLess a.data.toList b.data.toList)) ∧ Below w.heap.size w w' := by
  obtain ⟨R, hR⟩ : ∃ R, Op.bytesLess a.data.toList b.data.toList = R := ⟨_, rfl⟩
  rw [hR]
  have HR := Lib.hid hR
  have HA := Lib.hid (Lib.size_eq a)
  have HB := Lib.hid (Lib.size_eq b)
  clear hR
  go_enter Try.func30, Try.ntmps30
  go_wp2
  go_loopg [5] (a.size + b.size) (fun g i wx => ∃ j : Nat, i = .int .i64 (j : Int) ∧ j + g = a.size + b.size ∧ j ≤ a.size ∧ j ≤ b.size ∧ Hid (Op.bytesLess (a.data.toList.drop j) (b.data.toList.drop j) = R ∧ Below w.heap.size w wx))
  case atStart => exact ⟨0, rfl, by omega, by omega, by omega, by simpa using HR.out, Below.refl _ _⟩
  case round =>
    obtain ⟨j, rfl, hj, hja, hjb, HI⟩ := hrel
    by_cases h1 : j < a.size
    · have h1' : (j : Int) < (a.size : Int) := by omega
      by_cases h2 : j < b.size
      · have h2' : (j : Int) < (b.size : Int) := by omega
        have hw : IntKind.i64.wrap ((j : Int) + 1) = (j : Int) + 1 := IntWalk.i64_in _ (by omega)
        have HL := Lib.hid (less_at (at_eq a j h1) (at_eq b j h2))
        by_cases he : a[j] = b[j]
        · have hne : ((a[j].toNat : Int) != (b[j].toNat : Int)) = false := by rw [he]; simp
          have HN := Lib.hid (show Op.bytesLess (a.data.toList.drop (j + 1)) (b.data.toList.drop (j + 1)) = R by
            rw [← HI.out.1, HL.out, he]
            simp)
          clear he
          go_wp2
          go_quiet (fail)
          go_wp2
          go_roundg (gk - 1)
          case measure => omega
          case rel => exact ⟨j + 1, by simp, by omega, by omega, by omega, HN.out, below_drewX HI.out.2 _⟩
        · have hne : ((a[j].toNat : Int) != (b[j].toNat : Int)) = true := by
            rw [bne_iff_ne]
            intro e
            exact he (UInt8.toNat_inj.1 (by omega))
          have HV := Lib.hid (show decide (a[j].toNat < b[j].toNat) = R by
            rw [← HI.out.1, HL.out, beq_eq_false_iff_ne.2 he, Bool.false_and, Bool.or_false]
            rw [Bool.eq_iff_iff, decide_eq_true_iff, decide_eq_true_iff, UInt8.lt_iff_toNat_lt])
          clear he
          go_wp2
          go_quiet (fail)
          go_wp2
          go_quiet (fail)
          go_wp2
          go_ret
          exact ⟨by rw [← HV.out]; rfl, below_drewX (below_drewX HI.out.2 _) _⟩
      · have h2' : ¬ (j : Int) < (b.size : Int) := by omega
        have HE := Lib.hid (less_end (a := a.data.toList) (b := b.data.toList) (i := j) (by rw [← HB.out]; omega) (by rw [← HA.out]; omega) (by rw [← HB.out]; omega))
        go_wp2
        go_ret
        exact ⟨by rw [← HI.out.1, HE.out, ← HA.out, ← HB.out]; simp, HI.out.2⟩
    · have h1' : ¬ (j : Int) < (a.size : Int) := by omega
      have HE := Lib.hid (less_end (a := a.data.toList) (b := b.data.toList) (i := j) (by rw [← HA.out]; omega) (by rw [← HA.out]; omega) (by rw [← HB.out]; omega))
      go_wp2
      go_ret
      exact ⟨by rw [← HI.out.1, HE.out, ← HA.out, ← HB.out]; simp, HI.out.2⟩
end Go.Proofs.Ytkannambildnoaa
