/-
  Names and paths as lists of bytes: what a name is, a path's pieces, its depth, what lies under what; splitting and joining undo each other. No program.
  Contracts of strings.HasPrefix, of strings.Cut at a slash, and of strings.LastIndexByte at a slash: for every text. No condition.
  A list of bytes as a text. No condition.
  Contracts of path.parts and of the iterator that it hands back: it goes through the pieces of a text, for every loop body. Condition: the text has a byte.
  Contracts of path.Name, of the closure in it, of strings.ContainsFunc over that closure: for every text. No condition.
  Contracts of strings.ContainsFunc over path.Name's closure, and of path.Name: for every text. No condition.
  Contracts of strings.ContainsFunc over path.Name's closure, and of path.Name: for every text. No condition.
  The contract of path.Deep: how many names a path has; -1 of no path. Condition: the text's size fits an int.
  Contracts of path.Deep and Under for every text. Condition: a text's size fits an int.
-/
import Derived.Lib.Strings
import Derived.Test.YtlnjbadbpddlmaaGreatDoorProg
import Derived.WalkKit
import Derived.Lib.Bytealg
import Derived.Lib.Hide
import Derived.Deep.LoopGhost
import Derived.BigQuiet
import Derived.IntWalk
import Derived.RegionTactic
import Derived.RowKitTokens
import Derived.RangeFuncNested
import Derived.RangeFuncBound
import Derived.RangeFuncCalls
import Derived.RangeFuncLeaves
import Derived.RangeFuncBox
import Derived.Maps.AppendAt
import Derived.Shelf.Abstract
import Derived.Shelf.RegionOpen
import Derived.OwnWalkIn
import Derived.TacticsInMore
import Derived.LoopNIn
import Derived.LoopIn
import Derived.Lib.OthersKept
import Derived.StillTailTactics
namespace Go.Proofs.YtlnjbadbpddlmaaGreatDoor

def nb (c : UInt8) : Bool := (decide (97 ≤ c.toNat) && decide (c.toNat ≤ 122)) || (decide (48 ≤ c.toNat) && decide (c.toNat ≤ 57)) || c.toNat == 45 || c.toNat == 95
def nm (l : List UInt8) : Bool := decide (1 ≤ l.length) && decide (l.length ≤ 8) && l.all nb
def spl : List UInt8 → List (List UInt8)
  | [] => [[]]
  | c :: r => if c = 47 then [] :: spl r else match spl r with
    | [] => [[c]]
    | h :: t => (c :: h) :: t
/-- a path's pieces: the texts behind its slashes -/
def pcs : List UInt8 → List (List UInt8)
  | [] => []
  | _ :: r => if r = [] then [] else spl r
def good (ns : List (List UInt8)) : Prop := ns.length ≤ 6 ∧ ∀ x ∈ ns, nm x = true
instance (ns : List (List UInt8)) : Decidable (good ns) := inferInstanceAs (Decidable (_ ∧ _))
def jn (ns : List (List UInt8)) : List UInt8 := (ns.map (47 :: ·)).flatten
def pth (ns : List (List UInt8)) : List UInt8 := if ns = [] then [47] else jn ns
def isP (p : List UInt8) : Prop := p.head? = some 47 ∧ good (pcs p)
instance (p : List UInt8) : Decidable (isP p) := inferInstanceAs (Decidable (_ ∧ _))
def dp (p : List UInt8) : Int := if isP p then ((pcs p).length : Int) else -1
def und (p q : List UInt8) : Bool := decide (isP p ∧ isP q ∧ pcs q <+: pcs p ∧ pcs q ≠ pcs p)

theorem nb_slash : nb 47 = false := by decide
theorem nm_noslash {x : List UInt8} (h : nm x = true) : 47 ∉ x := fun hm => by
  simp only [nm, Bool.and_eq_true, List.all_eq_true] at h
  have := h.2 _ hm
  rw [nb_slash] at this
  cases this
theorem nm_ne {x : List UInt8} (h : nm x = true) : x ≠ [] := fun e => by subst e; simp [nm] at h
theorem nm_len {x : List UInt8} (h : nm x = true) : x.length ≤ 8 := by simp [nm] at h; omega

theorem spl_ne (l : List UInt8) : spl l ≠ [] := by
  cases l with
  | nil => simp [spl]
  | cons c r =>
    rw [spl]
    split
    · simp
    · split <;> simp
theorem spl_noslash : ∀ (l : List UInt8), 47 ∉ l → spl l = [l]
  | [], _ => rfl
  | c :: r, h => by
    have h1 : c ≠ 47 := fun e => h (by simp [e])
    have h2 := spl_noslash r (fun e => h (by simp [e]))
    rw [spl, if_neg h1, h2]
theorem spl_cut : ∀ (a b : List UInt8), 47 ∉ a → spl (a ++ 47 :: b) = a :: spl b
  | [], b, _ => by simp [spl]
  | c :: a, b, h => by
    have h1 : c ≠ 47 := fun e => h (by simp [e])
    have h2 := spl_cut a b (fun e => h (by simp [e]))
    rw [List.cons_append, spl, if_neg h1, h2]
theorem spl_noslash_mem : ∀ (l : List UInt8), ∀ x ∈ spl l, 47 ∉ x
  | [], x, h => by simp [spl] at h; subst h; simp
  | c :: r, x, h => by
    rw [spl] at h
    split at h
    · rcases List.mem_cons.1 h with rfl | h
      · simp
      · exact spl_noslash_mem r x h
    · rename_i hc
      split at h
      · rename_i he
        exact absurd he (spl_ne r)
      · rename_i hd tl he
        have hh := spl_noslash_mem r hd (by rw [he]; simp)
        rcases List.mem_cons.1 h with rfl | h
        · intro hm
          rcases List.mem_cons.1 hm with e | hm
          · exact hc e.symm
          · exact hh hm
        · exact spl_noslash_mem r x (by rw [he]; simp [h])
theorem jn_spl : ∀ l : List UInt8, jn (spl l) = 47 :: l
  | [] => rfl
  | c :: r => by
    have ih := jn_spl r
    rw [spl]
    split
    · rename_i h
      subst h
      simp only [jn, List.map_cons, List.flatten_cons] at ih ⊢
      rw [ih]
      rfl
    · split
      · rename_i he
        exact absurd he (spl_ne r)
      · rename_i hd tl he
        rw [he] at ih
        simp only [jn, List.map_cons, List.flatten_cons, List.cons_append, List.cons.injEq, true_and] at ih ⊢
        rw [ih]
theorem jn_cons (x : List UInt8) (ns : List (List UInt8)) : jn (x :: ns) = 47 :: (x ++ jn ns) := by simp [jn]
theorem jn_append (a b : List (List UInt8)) : jn (a ++ b) = jn a ++ jn b := by simp [jn]
theorem spl_jn : ∀ (ns : List (List UInt8)), (∀ x ∈ ns, 47 ∉ x) → ∀ x, 47 ∉ x → spl (x ++ jn ns) = x :: ns
  | [], _, x, hx => by simp [jn, spl_noslash x hx]
  | y :: ns, h, x, hx => by
    rw [jn_cons, spl_cut x _ hx, spl_jn ns (fun z hz => h z (by simp [hz])) y (h y (by simp))]
theorem pth_pcs {p : List UInt8} (h : p.head? = some 47) : pth (pcs p) = p := by
  cases p with
  | nil => cases h
  | cons c r =>
    obtain rfl : c = 47 := by simpa using h
    rw [pcs]
    split
    · rename_i e; subst e; rfl
    · rw [pth, if_neg (spl_ne r), jn_spl]
theorem pcs_pth {ns : List (List UInt8)} (h : ∀ x ∈ ns, nm x = true) : pcs (pth ns) = ns := by
  cases ns with
  | nil => rfl
  | cons x ns =>
    have hx := h x (by simp)
    rw [pth, if_neg (by simp), jn_cons, pcs, if_neg, spl_jn ns (fun y hy => nm_noslash (h y (by simp [hy]))) x (nm_noslash hx)]
    intro e
    exact nm_ne hx (List.append_eq_nil_iff.1 e).1
theorem head_pth (ns : List (List UInt8)) : (pth ns).head? = some 47 := by
  cases ns with
  | nil => rfl
  | cons x ns => rw [pth, if_neg (by simp), jn_cons]; rfl
theorem isP_pth {ns : List (List UInt8)} (h : good ns) : isP (pth ns) := ⟨head_pth ns, by rw [pcs_pth h.2]; exact h⟩
theorem isP.eq {p : List UInt8} (h : isP p) : pth (pcs p) = p := pth_pcs h.1
theorem isP.inj {p q : List UInt8} (hp : isP p) (hq : isP q) (h : pcs p = pcs q) : p = q := by rw [← hp.eq, ← hq.eq, h]
theorem dp_pos {p : List UInt8} (h : isP p) : dp p = ((pcs p).length : Int) := if_pos h
theorem dp_neg {p : List UInt8} (h : ¬ isP p) : dp p = -1 := if_neg h
theorem dp_lt {p : List UInt8} : dp p < 0 ↔ ¬ isP p := by
  by_cases h : isP p
  · rw [dp_pos h]
    exact ⟨fun e => by omega, fun e => absurd h e⟩
  · rw [dp_neg h]
    exact ⟨fun _ => h, fun _ => by omega⟩
theorem jn_ne {ns : List (List UInt8)} (h : ns ≠ []) : ∃ r, jn ns = 47 :: r := by
  cases ns with
  | nil => exact absurd rfl h
  | cons x ns => exact ⟨_, jn_cons x ns⟩

theorem cut_unique : ∀ {a b x y : List UInt8}, 47 ∉ a → 47 ∉ b → (y = [] ∨ ∃ r, y = 47 :: r) → (a ++ 47 :: x) <+: (b ++ y) → a = b ∧ (47 :: x) <+: y
  | [], [], x, y, _, _, _, h => ⟨rfl, by simpa using h⟩
  | [], c :: b, x, y, _, hb, _, ⟨t, ht⟩ => by
    simp at ht
    exact absurd ht.1 (fun e => hb (by simp [e]))
  | c :: a, [], x, y, ha, _, hy, ⟨t, ht⟩ => by
    rcases hy with rfl | ⟨r, rfl⟩
    · simp at ht
    · simp at ht
      exact absurd ht.1 (fun e => ha (by simp [e]))
  | c :: a, d :: b, x, y, ha, hb, hy, ⟨t, ht⟩ => by
    simp only [List.cons_append, List.cons.injEq] at ht
    obtain ⟨h1, h2⟩ := cut_unique (a := a) (b := b) (x := x) (y := y) (fun e => ha (by simp [e])) (fun e => hb (by simp [e])) hy ⟨t, ht.2⟩
    exact ⟨by rw [ht.1, h1], h2⟩
theorem jn_prefix : ∀ {ms ns : List (List UInt8)}, (∀ x ∈ ms, 47 ∉ x) → (∀ x ∈ ns, 47 ∉ x) → ((jn ms ++ [47]) <+: jn ns ↔ ms <+: ns ∧ ms ≠ ns)
  | [], ns, _, hn => by
    constructor
    · intro h
      refine ⟨List.nil_prefix, fun e => ?_⟩
      subst e
      simp [jn] at h
    · rintro ⟨_, h⟩
      obtain ⟨r, hr⟩ := jn_ne (Ne.symm h)
      rw [hr]
      exact ⟨r, by simp [jn]⟩
  | a :: ms, [], _, _ => by
    constructor
    · rintro ⟨t, ht⟩
      simp [jn] at ht
    · rintro ⟨h, _⟩
      simp at h
  | a :: ms, b :: ns, ha, hb => by
    have ih := jn_prefix (ms := ms) (ns := ns) (fun x hx => ha x (by simp [hx])) (fun x hx => hb x (by simp [hx]))
    rw [jn_cons, jn_cons, List.cons_append, List.cons_prefix_cons, List.append_assoc]
    have hms : ∃ r, jn ms ++ [47] = 47 :: r := by
      cases ms with
      | nil => exact ⟨[], rfl⟩
      | cons x ms => exact ⟨x ++ jn ms ++ [47], by rw [jn_cons]; simp⟩
    have hns : jn ns = [] ∨ ∃ r, jn ns = 47 :: r := by
      cases ns with
      | nil => exact .inl rfl
      | cons x ns => exact .inr ⟨_, jn_cons x ns⟩
    constructor
    · rintro ⟨_, h⟩
      obtain ⟨r, hr⟩ := hms
      rw [hr] at h
      obtain ⟨rfl, h2⟩ := cut_unique (ha a (by simp)) (hb b (by simp)) hns h
      rw [← hr] at h2
      obtain ⟨h3, h4⟩ := ih.1 h2
      exact ⟨List.cons_prefix_cons.2 ⟨rfl, h3⟩, fun e => h4 (List.cons.inj e).2⟩
    · rintro ⟨h1, h2⟩
      obtain ⟨rfl, h3⟩ := List.cons_prefix_cons.1 h1
      exact ⟨rfl, (List.prefix_append_right_inj a).2 (ih.2 ⟨h3, fun e => h2 (by rw [e])⟩)⟩

theorem isP.noslash {p : List UInt8} (h : isP p) : ∀ x ∈ pcs p, 47 ∉ x := fun x hx => nm_noslash (h.2.2 x hx)
theorem pcs_nil {p : List UInt8} (h : isP p) : pcs p = [] ↔ p = [47] := by
  constructor
  · intro e
    rw [← h.eq, e]
    rfl
  · rintro rfl
    rfl
/-- what Under does, at two paths -/
theorem und_eq {p q : List UInt8} (hp : isP p) (hq : isP q) : und p q = if q = [47] then decide (p ≠ [47]) else (q ++ [47]).isPrefixOf p := by
  have hu : und p q = decide (pcs q <+: pcs p ∧ pcs q ≠ pcs p) := by simp [und, hp, hq]
  rw [hu]
  split
  · rename_i e
    rw [(pcs_nil hq).2 e]
    by_cases h : p = [47]
    · rw [(pcs_nil hp).2 h]
      simp [h]
    · have := mt (pcs_nil hp).1 h
      simp [h, Ne.symm this]
  · rename_i e
    have hqn := mt (pcs_nil hq).1 e
    have e1 : q = jn (pcs q) := by conv => lhs; rw [← hq.eq, pth, if_neg hqn]
    by_cases h : p = [47]
    · have hpn := (pcs_nil hp).2 h
      rw [hpn]
      have h2 : (q ++ [47]).isPrefixOf p = false := by
        rw [Bool.eq_false_iff]
        intro h3
        have h4 := (List.isPrefixOf_iff_prefix.1 h3).length_le
        rw [h] at h4
        simp at h4
        rw [h4] at hq
        exact absurd hq.1 (by simp)
      rw [h2]
      simp [hqn]
    · have hpn := mt (pcs_nil hp).1 h
      have e2 : p = jn (pcs p) := by conv => lhs; rw [← hp.eq, pth, if_neg hpn]
      have := jn_prefix hq.noslash hp.noslash
      rw [← e1, ← e2] at this
      rw [Bool.eq_iff_iff, decide_eq_true_iff, List.isPrefixOf_iff_prefix]
      exact this.symm
theorem und_neg {p q : List UInt8} (h : ¬ isP p ∨ ¬ isP q) : und p q = false := by
  simp only [und, decide_eq_false_iff_not]
  rintro ⟨a, b, _⟩
  exact h.elim (fun x => x a) (fun x => x b)
theorem und_iff {p q : List UInt8} : und p q = true ↔ isP p ∧ isP q ∧ pcs q <+: pcs p ∧ pcs q ≠ pcs p := by simp [und]
theorem pth_prefix {ms ns : List (List UInt8)} (h : ms <+: ns) : pth ms <+: pth ns := by
  obtain ⟨t, rfl⟩ := h
  cases ms with
  | nil =>
    have := head_pth t
    rw [List.nil_append]
    cases hh : pth t with
    | nil => rw [hh] at this; cases this
    | cons c r =>
      rw [hh] at this
      obtain rfl : c = 47 := by simpa using this
      exact ⟨r, rfl⟩
  | cons x ms =>
    rw [pth, if_neg (by simp), pth, if_neg (by simp), jn_append]
    exact List.prefix_append _ _
/-- what lies under a path has it at its front and is longer -/
theorem und_longer {p q : List UInt8} (h : und p q = true) : q <+: p ∧ q.length < p.length := by
  obtain ⟨hp, hq, h1, h2⟩ := und_iff.1 h
  have h3 := pth_prefix h1
  rw [hp.eq, hq.eq] at h3
  refine ⟨h3, Nat.lt_of_le_of_ne h3.length_le fun e => ?_⟩
  exact h2 (by rw [h3.eq_of_length e])
theorem und_two {p q r : List UInt8} (h1 : und p q = true) (h2 : und p r = true) : q = r ∨ und q r = true ∨ und r q = true := by
  obtain ⟨hp, hq, a1, a2⟩ := und_iff.1 h1
  obtain ⟨_, hr, b1, b2⟩ := und_iff.1 h2
  by_cases e : q = r
  · exact .inl e
  · refine .inr ?_
    rcases List.prefix_or_prefix_of_prefix a1 b1 with h | h
    · exact .inr (und_iff.2 ⟨hr, hq, h, fun h' => e (hq.inj hr h')⟩)
    · exact .inl (und_iff.2 ⟨hq, hr, h, fun h' => e (hq.inj hr h'.symm)⟩)
theorem und_self (p : List UInt8) : und p p = false := by simp [und]
/-! ### the parent -/
theorem good_init {ms : List (List UInt8)} {x : List UInt8} (h : good (ms ++ [x])) : good ms ∧ nm x = true := by
  refine ⟨⟨?_, fun y hy => h.2 y (by simp [hy])⟩, h.2 x (by simp)⟩
  have := h.1
  simp at this
  omega
theorem par {p : List UInt8} (h : isP p) (h1 : p ≠ [47]) : ∃ ms x, good ms ∧ nm x = true ∧ pcs p = ms ++ [x] ∧ p = jn ms ++ 47 :: x := by
  have hn := mt (pcs_nil h).1 h1
  have e : pcs p = (pcs p).dropLast ++ [(pcs p).getLast hn] := (List.dropLast_concat_getLast hn).symm
  have hg := h.2
  rw [e] at hg
  refine ⟨_, _, (good_init hg).1, (good_init hg).2, e, ?_⟩
  have e2 : p = jn (pcs p) := by conv => lhs; rw [← h.eq, pth, if_neg hn]
  conv => lhs; rw [e2, e, jn_append]
  simp [jn]
theorem und_parent {p q : List UInt8} {ms : List (List UInt8)} {x : List UInt8} (hp : isP p) (hm : good ms) (e : pcs p = ms ++ [x]) : und p q = (decide (q = pth ms) || und (pth ms) q) := by
  have hd := isP_pth hm
  have hpd : pcs (pth ms) = ms := pcs_pth hm.2
  rw [Bool.eq_iff_iff, Bool.or_eq_true, und_iff, und_iff, decide_eq_true_iff, e, hpd]
  constructor
  · rintro ⟨_, hq, h1, h2⟩
    rcases List.prefix_concat_iff.1 h1 with h3 | h3
    · exact absurd h3 h2
    · by_cases h4 : pcs q = ms
      · exact .inl (by rw [← hq.eq, h4])
      · exact .inr ⟨hd, hq, h3, h4⟩
  · rintro (rfl | ⟨_, hq, h1, h2⟩)
    · refine ⟨hp, hd, by rw [hpd]; exact List.prefix_append _ _, fun h => ?_⟩
      rw [hpd] at h
      have := congrArg List.length h
      simp at this
    · refine ⟨hp, hq, h1.trans (List.prefix_append _ _), fun h => ?_⟩
      rw [h] at h1
      have := h1.length_le
      simp at this
      omega
end Go.Proofs.YtlnjbadbpddlmaaGreatDoor

namespace Go.Proofs.YtlnjbadbpddlmaaGreatDoor
open Go.RowKit

theorem ib_cases : ∀ l : List UInt8, (Lib.indexByte l 47 = -1 ∧ 47 ∉ l) ∨ ∃ i : Nat, Lib.indexByte l 47 = (i : Int) ∧ i < l.length ∧ 47 ∉ l.take i ∧ l = l.take i ++ 47 :: l.drop (i + 1)
  | [] => .inl ⟨rfl, by simp⟩
  | b :: l => by
    by_cases hb : b = 47
    · subst hb
      exact .inr ⟨0, by simp [Lib.indexByte], by simp, by simp, by simp⟩
    · have hb' : (b == 47) = false := by simpa using hb
      rcases ib_cases l with ⟨h1, h2⟩ | ⟨i, h1, h2, h3, h4⟩
      · exact .inl ⟨by simp [Lib.indexByte, hb', h1], by simp [Ne.symm hb, h2]⟩
      · refine .inr ⟨i + 1, ?_, by simpa using h2, by simp [Ne.symm hb, h3], by simpa using h4⟩
        have : ((i : Int) == -1) = false := by simp
        simp [Lib.indexByte, hb', h1, this]

set_option maxRecDepth 10000 in
set_option maxHeartbeats 1000000 in
theorem indexByte47 (s : ByteArray) (w : World) : Calls Tryz.prog 91 #[.string s, .int .u8 47] w fun e w' => e = .returned (.int .i64 (Lib.indexByte s.data.toList 47)) ∧ w = w' := by
  go_enter Tryz.func91, Tryz.ntmps91
  go_wp2
  rw [run_callFunc_extern Tryz.func95 (by kernel_rfl) (by kernel_rfl) (by kernel_rfl) (e := Extern.BytealgIndexByte.indexByte) (by kernel_rfl), Lib.run_indexByteString]
  simp only [Result.andThen]
  rw [Oper.upon_value]
  go_wp2
  go_ret
  exact ⟨rfl, rfl⟩

set_option maxRecDepth 10000 in
set_option maxHeartbeats 2000000 in
theorem index47 (s : ByteArray) (w : World) : Calls Tryz.prog 88 #[.string s, .string ⟨#[47]⟩] w fun e w' => e = .returned (.int .i64 (Lib.indexByte s.data.toList 47)) ∧ w = w' := by
  go_enter Tryz.func88, Tryz.ntmps88
  go_wp2_with (refine (indexByte47 s _).mono ?_; rintro e w' ⟨rfl, rfl⟩)
  · have h : ([(47 : UInt8)] == s.toList) = true := by assumption
    go_ret
    refine ⟨?_, rfl⟩
    have e : s.data.toList = [47] := by rw [← Lib.toList_data]; exact (beq_iff_eq.1 h).symm
    rw [e]
    simp [Lib.indexByte]
  · go_ret
    exact ⟨rfl, rfl⟩

/-- what Cut at a slash gives -/
def CutAt (s x y : ByteArray) (m : Bool) : Prop :=
  (m = false ∧ 47 ∉ s.data.toList ∧ x = s ∧ y = ⟨#[]⟩) ∨ (m = true ∧ 47 ∉ x.data.toList ∧ s.data.toList = x.data.toList ++ 47 :: y.data.toList)

set_option maxRecDepth 10000 in
set_option maxHeartbeats 2000000 in
theorem cut47 (s : ByteArray) (hz : s.size ≤ 9223372036854775807) (w : World) : Calls Tryz.prog 84 #[.string s, .string ⟨#[47]⟩] w fun e w' => ∃ x y m, e = .returned (.tuple #[.string x, .string y, .bool m]) ∧ CutAt s x y m ∧ ∃ n, w' = w.drewN n := by
  rcases ib_cases s.data.toList with ⟨h1, h2⟩ | ⟨i, h1, h2, h3, h4⟩
  · have H2 := Lib.hid h2
    clear h2
    go_enter Tryz.func84, Tryz.ntmps84
    go_wp2_with fail
    refine (index47 s w).mono ?_
    rintro e w' ⟨rfl, rfl⟩
    rw [h1]
    go_wp2
    go_ret3
    exact ⟨_, _, _, rfl, .inl ⟨rfl, H2.out, rfl, rfl⟩, 0, rfl⟩
  · rw [← Lib.size_eq] at h2
    have HC : CutAt s (s.extract 0 i) (s.extract (i + 1) s.size) true := by
      refine .inr ⟨rfl, ?_, ?_⟩
      · rw [Lib.extract_data]; simpa using h3
      · rw [Lib.extract_data, Lib.extract_data, List.take_of_length_le (l := List.drop (i + 1) _) (by rw [List.length_drop, Lib.size_eq]; omega)]
        simpa using h4
    have HC' := Lib.hid HC
    clear HC h3 h4
    have c1 : (0 : Int) ≤ ↑i := by omega
    have c2 : (↑i : Int) ≤ ↑s.size := by omega
    have c3 : (0 : Int) ≤ ↑i + 1 := by omega
    have c4 : (↑i + 1 : Int) ≤ ↑s.size := by omega
    have c5 : IntKind.i64.wrap ((i : Int) + 1) = (i : Int) + 1 := IntWalk.i64_in _ (by omega)
    have c6 : ((i : Int) + 1).toNat = i + 1 := by omega
    clear hz
    go_enter Tryz.func84, Tryz.ntmps84
    go_wp2_with fail
    refine (index47 s w).mono ?_
    rintro e w' ⟨rfl, rfl⟩
    rw [h1]
    go_wp2
    go_region
    go_wp2
    go_ret3
    exact ⟨_, _, _, rfl, HC'.out, 1, rfl⟩

set_option maxRecDepth 10000 in
set_option maxHeartbeats 1000000 in
theorem Cut47 (s : ByteArray) (hz : s.size ≤ 9223372036854775807) (w : World) : Calls Tryz.prog 73 #[.string s, .string ⟨#[47]⟩] w fun e w' => ∃ x y m, e = .returned (.tuple #[.string x, .string y, .bool m]) ∧ CutAt s x y m ∧ ∃ n, w' = w.drewN n := by
  go_enter Tryz.func73, Tryz.ntmps73
  go_wp2_with fail
  refine (cut47 s hz w).mono ?_
  rintro e w' ⟨x, y, m, rfl, hc, n, rfl⟩
  have HC := Lib.hid hc
  clear hc
  go_wp2
  go_ret3
  exact ⟨_, _, _, rfl, HC.out, n, rfl⟩

set_option maxRecDepth 10000 in
set_option maxHeartbeats 1000000 in
theorem hasPrefix_lite (s p : ByteArray) (w : World) : Calls Tryz.prog 71 #[.string s, .string p] w fun e w' => e = .returned (.bool (Lib.hasPrefix s.data.toList p.data.toList)) ∧ w = w' := by
  rw [← Lib.hasPrefix_of_take, ← Lib.size_eq, ← Lib.size_eq]
  go_enter Tryz.func71, Tryz.ntmps71
  go_wp2
  · rename_i h
    go_ret
    refine ⟨?_, rfl⟩
    show Ending.returned (Value.bool ((s.extract 0 p.size).toList == p.toList)) = _
    rw [Lib.extract_toList, Lib.toList_data]
    simp [h]
  · rename_i h
    go_ret
    refine ⟨?_, rfl⟩
    show Ending.returned (Value.bool false) = _
    simp [h]

set_option maxRecDepth 10000 in
set_option maxHeartbeats 1000000 in
theorem hasPrefix_any (s p : ByteArray) (w : World) : Calls Tryz.prog 50 #[.string s, .string p] w fun e w' => e = .returned (.bool (p.data.toList.isPrefixOf s.data.toList)) ∧ w = w' := by
  go_enter Tryz.func50, Tryz.ntmps50
  go_wp2_with fail
  refine (hasPrefix_lite s p w).mono ?_
  rintro e w' ⟨rfl, rfl⟩
  go_wp2
  go_ret
  exact ⟨rfl, rfl⟩

theorem at_eq (s : ByteArray) (i : Nat) (h : i < s.size) : s.data.toList[i]? = some (s[i]'h) := by
  rw [Array.getElem?_toList, Array.getElem?_eq_getElem (by simpa using h)]
  rfl

set_option maxRecDepth 10000 in
set_option maxHeartbeats 1000000 in
theorem lastIndex47 (s : ByteArray) (a b : List UInt8) (hs : s.data.toList = a ++ 47 :: b) (hb : 47 ∉ b) (hz : s.size ≤ 9223372036854775807) (w : World) :
    Calls Tryz.prog 76 #[.string s, .int .u8 47] w fun e w' => e = .returned (.int .i64 (a.length : Int)) ∧ w = w' := by
  have hl : s.size = a.length + 1 + b.length := by rw [Lib.size_eq, hs]; simp; omega
  have hhit : ∀ k, (h : k < s.size) → (((s[k]'h).toNat : Int) == 47) = true → k ≤ a.length := fun k h ht => by
    have h1 := at_eq s k h
    rw [hs] at h1
    rcases Nat.lt_or_ge a.length k with h2 | h2
    · exfalso
      rw [List.getElem?_append_right (by omega), List.getElem?_cons, if_neg (by omega)] at h1
      have hm := List.mem_of_getElem? h1
      have h47 : s[k]'h = 47 := by
        simp at ht
        apply UInt8.toNat_inj.1
        show _ = 47
        omega
      rw [h47] at hm
      exact hb hm
    · exact h2
  have hat : ∀ (h : a.length < s.size), (((s[a.length]'h).toNat : Int) == 47) = true := fun h => by
    have h1 := at_eq s a.length h
    rw [hs, List.getElem?_append_right (by omega)] at h1
    simp at h1
    rw [← h1]
    rfl
  have HH := Lib.hid hhit
  have HA := Lib.hid hat
  have HL := Lib.hid hl
  clear hhit hat hs hl
  go_enter Tryz.func76, Tryz.ntmps76
  go_wp2
  go_loop [5] (fun vi => ∃ k : Nat, k ≤ s.size ∧ a.length < k ∧ vi = .int .i64 ((k : Int) - 1)) (fun vi => (RowKit.intOf vi + 1).toNat)
  case atStart => exact ⟨s.size, Nat.le_refl _, by have := HL.out; omega, rfl⟩
  case round =>
    obtain ⟨k, hk, hk2, rfl⟩ := hrel
    go_wp2
    · have ht : (((s[k - 1]'(by omega)).toNat : Int) == 47) = true := by assumption
      have := HH.out (k - 1) (by omega) ht
      have hk1 : k - 1 = a.length := by omega
      go_ret
      refine ⟨?_, rfl⟩
      refine congrArg (fun n => Ending.returned (.int .i64 n)) ?_
      omega
    · have ht : (((s[k - 1]'(by omega)).toNat : Int) == 47) = false := by assumption
      have hne : k - 1 ≠ a.length := fun e => by
        have := HA.out (by omega)
        simp only [← e] at this
        rw [this] at ht
        cases ht
      go_round
      case rel => exact ⟨k - 1, by omega, by omega, by first | go_num | (congr 1; omega)⟩
      case measure => simp [RowKit.intOf]; omega

set_option maxRecDepth 10000 in
set_option maxHeartbeats 1000000 in
theorem LastIndex47 (s : ByteArray) (a b : List UInt8) (hs : s.data.toList = a ++ 47 :: b) (hb : 47 ∉ b) (hz : s.size ≤ 9223372036854775807) (w : World) :
    Calls Tryz.prog 54 #[.string s, .int .u8 47] w fun e w' => e = .returned (.int .i64 (a.length : Int)) ∧ w = w' := by
  have H := Lib.hid (lastIndex47 s a b hs hb hz w)
  clear hs hb hz
  go_enter Tryz.func54, Tryz.ntmps54
  go_wp2_with fail
  refine H.out.mono ?_
  rintro e w' ⟨rfl, rfl⟩
  go_wp2
  go_ret
  exact ⟨rfl, rfl⟩
end Go.Proofs.YtlnjbadbpddlmaaGreatDoor

namespace Go.Proofs.YtlnjbadbpddlmaaGreatDoor

/-- Bytes as a text. -/
def bs (l : List UInt8) : ByteArray := ⟨l.toArray⟩
theorem bs_list (l : List UInt8) : (bs l).data.toList = l := by simp [bs]
theorem bs_size (l : List UInt8) : (bs l).size = l.length := rfl
theorem bs_of {s : ByteArray} {l : List UInt8} (h : s.data.toList = l) : s = bs l := by
  apply ByteArray.ext
  rw [← Array.toList_inj, h, bs_list]
theorem bs_self (s : ByteArray) : bs s.data.toList = s := (bs_of rfl).symm
theorem bs_append (a b : List UInt8) : bs a ++ bs b = bs (a ++ b) := by
  apply bs_of
  rw [ByteArray.data_append, Array.toList_append, bs_list, bs_list]
theorem of_data {s : ByteArray} {l : List UInt8} (h : s.data.toList = l) : s = ⟨l.toArray⟩ := by rw [← h, Lib.mk_data]
end Go.Proofs.YtlnjbadbpddlmaaGreatDoor

namespace Go.Proofs.YtlnjbadbpddlmaaGreatDoor
open Go.RowKit Go.Shelf
attribute [local go_sem] Oper.semAt_some

theorem bs_data (s : ByteArray) : bs s.data.toList = s := Lib.mk_data s
theorem data_bs (l : List UInt8) : (bs l).data.toList = l := rfl
def prts (p : ByteArray) : List ByteArray := (pcs p.data.toList).map bs
/-- what is still to come -/
def left (r : ByteArray) (m : Bool) : List ByteArray := if m then (spl r.data.toList).map bs else []
def mes : Value → Value → Nat
  | .string r, .bool true => r.size + 1
  | _, _ => 0
theorem left_cut {r x y : ByteArray} {m : Bool} (h : CutAt r x y m) : left r true = x :: left y m ∧ mes (.string y) (.bool m) < mes (.string r) (.bool true) ∧ y.size ≤ r.size := by
  rcases h with ⟨rfl, h1, rfl, rfl⟩ | ⟨rfl, h1, h2⟩
  · exact ⟨by simp [left, spl_noslash _ h1, bs_data], by simp [mes], Nat.zero_le _⟩
  · have : y.size < r.size := by rw [Lib.size_eq, Lib.size_eq, h2]; simp; omega
    exact ⟨by simp [left, h2, spl_cut _ _ h1, bs_data], by simp [mes]; omega, by omega⟩
theorem grown_drewN (w : World) (n : Nat) : w.grownBy (w.drewN n) none := ⟨rfl, rfl, rfl, Nat.le_refl _, fun _ _ _ => rfl⟩
theorem grown_drew (w : World) : w.grownBy w.drew none := ⟨rfl, rfl, rfl, Nat.le_refl _, fun _ _ _ => rfl⟩

theorem parts_any (p : ByteArray) (w : World) : Calls Tryz.prog 51 #[.string p] w fun e w' => e = .returned (.func (.func 72) #[] #[.pointer (some ⟨w.heap.size, 0, none⟩)]) ∧ w.alloc (.cells #[.string p] 9) = w' := by
  go_enter Tryz.func51, Tryz.ntmps51
  go_wp2
  go_ret
  exact ⟨rfl, rfl⟩

set_option maxRecDepth 100000 in
set_option maxHeartbeats 2000000 in
theorem parts1_in (n : Nat) (hn : 1 ≤ n) (l Bn n₀ B : Nat) (p : ByteArray) (hh : p.data.toList.head? = some 47) (hz : p.size ≤ 9223372036854775807) (J Jx : List ByteArray → World → Prop) (hJ : AbidesFrom B J)
    (hY : ∀ pre x W, J pre W → pre.length < (prts p).length → YieldAt Fence.wide (n - 1) Tryz.prog l #[.string x] W fun e W' =>
      (e = .returned (.bool true) ∧ J (pre ++ [x]) W' ∧ Below n₀ W W') ∨ (e = .returned (.bool false) ∧ Jx (pre ++ [x]) W'))
    (W : World) (hBn : W.cell? ⟨Bn, 0, none⟩ = some (.string p)) (h0 : J [] W) :
    CallsIn Fence.wide n Tryz.prog 72 #[.func (.yield l) #[] #[], .pointer (some ⟨Bn, 0, none⟩)] W fun e W' => (∃ v, e = .returned v) ∧
      ((∃ ys, ys = prts p ∧ J ys W') ∨ (∃ pre, pre <+: prts p ∧ Jx pre W')) := by
  have hdrew : ∀ pre W k, J pre W → J pre (W.drewN k) := fun pre W k h => hJ pre W _ none h (grown_drewN W k) (fun r e => by cases e)
  have HD := Lib.hid hdrew
  have HY := Lib.hid hY
  obtain ⟨c, r, hcr⟩ : ∃ c r, p.data.toList = c :: r := by
    cases h : p.data.toList with
    | nil => rw [h] at hh; cases hh
    | cons c r => exact ⟨c, r, rfl⟩
  have h1 : (1 : Int) ≤ p.size := by rw [Lib.size_eq, hcr]; simp; omega
  have hle : (p.extract 1 p.size).size ≤ p.size := by rw [Lib.size_eq, Lib.extract_data, Lib.size_eq]; simp
  have hstart : ∀ m : Bool, m = (!(p.toList == [47])) → prts p = [] ++ left (p.extract 1 p.size) m := fun m hm => by
    obtain rfl : c = 47 := by rw [hcr] at hh; simpa using hh
    have he : (p.extract 1 p.size).data.toList = r := by
      rw [Lib.extract_data, hcr, List.drop_one, List.tail_cons, List.take_of_length_le]
      rw [Lib.size_eq, hcr]
      simp
    rw [Lib.toList_data, hcr] at hm
    subst hm
    rw [prts, hcr, pcs, left, he]
    by_cases hr : r = []
    · subst hr; rfl
    · have : ((47 : UInt8) :: r == [47]) = false := by simp [hr]
      simp [hr, this]
  have HS := Lib.hid hstart
  have HZ := Lib.hid hz
  have hmix : Tryz.prog.follows .mixedOrders = true := by kernel_rfl
  have HL := Lib.hid hle
  have H0 := Lib.hid h0
  clear hdrew hY hJ hstart hz hle h0 hcr hh
  refine callsIn_of_wp Tryz.func72 rfl trivial ?_ rfl
  simp only [Tryz.ntmps72, List.size_toArray, List.length_cons, List.length_nil, Nat.reduceAdd, Nat.reduceSub, Array.replicate_succ, Array.replicate_zero, List.push_toArray, List.append_toArray, List.nil_append, List.cons_append]
  gi_wp2
  gi_region_o
  gi_wp2
  gi_loopw [3, 4] (fun r m wr => ∃ (pre : List ByteArray) (rest : ByteArray) (more : Bool), r = .string rest ∧ m = .bool more ∧ Hid (prts p = pre ++ left rest more) ∧ Hid (rest.size ≤ p.size) ∧ Hid (J pre wr)) (fun r m _ => mes r m)
  case atStart => exact ⟨[], _, _, rfl, rfl, HS.out _ rfl, HL.out, HD.out [] W 1 H0.out⟩
  case round =>
    obtain ⟨pre, rest, more, rfl, rfl, hx, hle, hJs⟩ := hrel
    cases more with
    | false =>
      gi_wp2
      go_end0
      exact ⟨⟨_, rfl⟩, .inl ⟨pre, by rw [hx.out]; simp [left], hJs.out⟩⟩
    | true =>
      gi_wp2_with (refine ⟨trivial, ?_⟩; gi_at_call 73; refine (callsIn_wide.2 (Cut47 rest (Nat.le_trans hle.out HZ.out) _)).mono ?_)
      rintro e wc ⟨x, y, m, rfl, hc, k, rfl⟩
      have hc2 := left_cut hc
      have hx2 : prts p = (pre ++ [x]) ++ left y m := by rw [hx.out, hc2.1]; simp
      have hlen : pre.length < (prts p).length := by rw [hx2]; simp
      have HX2 := Lib.hid hx2
      have HC2 := Lib.hid hc2.2
      obtain ⟨fn, tmps, assign, body, hy, hR⟩ := HY.out pre x _ (HD.out pre wr k hJs.out) hlen
      clear hc hc2 hx2 hlen
      gi_wp2
      refine hR.mono ?_
      rintro e W3 (⟨rfl, hJ3, hk3⟩ | ⟨rfl, hJx3⟩)
      · have HJ3 := Lib.hid hJ3
        clear hJ3 hk3
        gi_wp2
        go_roundw
        case rel => exact ⟨pre ++ [x], y, m, rfl, rfl, HX2.out, Nat.le_trans HC2.out.2 hle.out, HJ3.out⟩
        case measure => exact HC2.out.1
      · have HJ3 := Lib.hid hJx3
        clear hJx3
        gi_wp2
        refine bodyPost_ret (results_none rfl _ _ _) rfl ?_
        exact ⟨⟨_, rfl⟩, .inr ⟨pre ++ [x], ⟨left y m, HX2.out.symm⟩, HJ3.out⟩⟩

/-- parts(p) hands back what goes through the pieces of p: all, or as many as the loop's body lets. -/
theorem parts_stops (n : Nat) (hn : 1 ≤ n) (Bn n₀ : Nat) (p : ByteArray) (hh : p.data.toList.head? = some 47) (hz : p.size ≤ 9223372036854775807) (w : World) (hBn : Bn < w.heap.size)
    (hc : w.cell? ⟨Bn, 0, none⟩ = some (.string p)) :
    SeqStopsK Fence.wide n Tryz.prog 72 #[.pointer (some ⟨Bn, 0, none⟩)] (fun x : ByteArray => #[Value.string x]) (Below n₀) (fun ys => ys = prts p) (fun pre => pre <+: prts p) (prts p).length w := fun l J Jx W hW hJ _ hY h0 =>
  parts1_in n hn l Bn n₀ W.heap.size p hh hz J Jx hJ hY W ((hW.cell (p := ⟨Bn, 0, none⟩) hBn).trans hc) h0
end Go.Proofs.YtlnjbadbpddlmaaGreatDoor

namespace Go.Proofs.YtlnjbadbpddlmaaGreatDoor
open Go.RowKit

def rn (r : Int) : Bool := !(decide (97 ≤ r) && decide (r ≤ 122)) && !(decide (48 ≤ r) && decide (r ≤ 57)) && !(r == 45) && !(r == 95)
theorem rn_nb (c : UInt8) : rn (c.toNat : Int) = !nb c := by
  have h : ∀ k : Nat, ((k : Int) == 45) = (k == 45) ∧ ((k : Int) == 95) = (k == 95) ∧ decide (97 ≤ (k : Int)) = decide (97 ≤ k) ∧ decide ((k : Int) ≤ 122) = decide (k ≤ 122) ∧ decide (48 ≤ (k : Int)) = decide (48 ≤ k) ∧ decide ((k : Int) ≤ 57) = decide (k ≤ 57) := fun k => by
    refine ⟨?_, ?_, ?_, ?_, ?_, ?_⟩ <;> (rw [Bool.eq_iff_iff]; simp; try omega)
  obtain ⟨h1, h2, h3, h4, h5, h6⟩ := h c.toNat
  simp only [rn, nb, h1, h2, h3, h4, h5, h6, Bool.not_or]
theorem rn_big {r : Int} (h : 128 ≤ r) : rn r = true := by
  have h1 : decide (r ≤ 122) = false := by simp; omega
  have h2 : decide (r ≤ 57) = false := by simp; omega
  have h3 : (r == 45) = false := by simp; omega
  have h4 : (r == 95) = false := by simp; omega
  simp [rn, h1, h2, h3, h4]
theorem nb_big {c : UInt8} (h : 128 ≤ c.toNat) : nb c = false := by
  have := rn_nb c
  rw [rn_big (by omega)] at this
  simpa using this

theorem dec_small (s : ByteArray) (pos : Nat) (h : (s.get! pos).toNat < 128) : Utf8.decode s pos = ((s.get! pos).toNat, 1) := by
  simp [Utf8.decode, h]
theorem dec_big (s : ByteArray) (pos : Nat) (h : ¬ (s.get! pos).toNat < 128) : 128 ≤ (Utf8.decode s pos).1 ∧ (Utf8.decode s pos).1 ≤ 2097151 := by
  simp only [Utf8.decode, Nat.add_zero, h, if_false, Utf8.runeError]
  have m1 : ∀ a : Nat, a % 64 < 64 := fun a => Nat.mod_lt _ (by omega)
  split
  · split
    · have := Nat.mod_lt (s.get! pos).toNat (show 0 < 32 by omega)
      have := m1 (s.get! (pos + 1)).toNat
      simp only; omega
    · simp
  · split
    · split
      · rename_i h2
        simp only [Bool.and_eq_true, decide_eq_true_eq] at h2
        have := Nat.mod_lt (s.get! pos).toNat (show 0 < 16 by omega)
        have := m1 (s.get! (pos + 1)).toNat
        have := m1 (s.get! (pos + 2)).toNat
        simp only; omega
      · simp
    · split
      · split
        · rename_i h2
          simp only [Bool.and_eq_true, decide_eq_true_eq] at h2
          have := Nat.mod_lt (s.get! pos).toNat (show 0 < 8 by omega)
          have := m1 (s.get! (pos + 1)).toNat
          have := m1 (s.get! (pos + 2)).toNat
          have := m1 (s.get! (pos + 3)).toNat
          simp only; omega
        · simp
      · simp
theorem get_drop (s : ByteArray) (pos : Nat) (h : pos < s.size) : s.data.toList.take (pos + 1) = s.data.toList.take pos ++ [s.get! pos] := by
  have h' : pos < s.data.toList.length := by rw [← Lib.size_eq]; exact h
  rw [List.take_succ_eq_append_getElem h']
  congr 2
  have : s.get! pos = s.data[pos]! := rfl
  rw [this, getElem!_pos s.data pos (by simpa using h')]
  simp

set_option maxHeartbeats 1000000 in
theorem name1 (r : Int) (w : World) : Calls Tryz.prog 74 #[.int .i32 r] w fun e w' => e = .returned (.bool (rn r)) ∧ w = w' := by
  go_enter Tryz.func74, Tryz.ntmps74
  go_wp2
  all_goals go_ret
  all_goals refine ⟨?_, rfl⟩
  all_goals refine congrArg (fun b => Ending.returned (.bool b)) ?_
  all_goals (simp only [rn]; rw [Bool.eq_iff_iff]; simp; try omega)
end Go.Proofs.YtlnjbadbpddlmaaGreatDoor

namespace Go.Proofs.YtlnjbadbpddlmaaGreatDoor
open Go.RowKit

set_option maxHeartbeats 2000000 in
set_option maxRecDepth 100000 in
theorem indexFunc_name (s : ByteArray) (w : World) :
    Calls Tryz.prog 89 #[.string s, .func (.func 74) #[] #[], .bool true] w fun e w' => ∃ i : Int, e = .returned (.int .i64 i) ∧ decide (0 ≤ i) = !(s.data.toList.all nb) ∧ Below w.heap.size w w' := by
  go_enter Tryz.func89, Tryz.ntmps89
  go_wp2
  go_loopg [] s.size (fun g wx => ∃ pos : Nat, wx.heap[w.heap.size]? = some (.stringIter s pos) ∧ Hid (Below w.heap.size w wx) ∧ Hid ((s.data.toList.take pos).all nb = true) ∧ pos + g = s.size)
  case atStart => exact ⟨0, World.iter_heap w s 0, (Below.refl _ w).alloc (Nat.le_refl _) _, by simp [Hid], by omega⟩
  case round =>
    obtain ⟨pos, hit, hbw, hall, hfu⟩ := hrel
    have hsz : w.heap.size < wr.heap.size := (Array.getElem?_eq_some_iff.1 hit).1
    by_cases hp : pos < s.size
    · have hnx : ∀ ty, (Instr.next (.pointer (some ⟨w.heap.size, 0, none⟩)) true ty).run Tryz.prog wr = _ := fun ty => Lib.run_next_any_at wr w.heap.size s pos ty hit hp
      have hbig : (rn ((Utf8.decode s pos).1 : Int)) = !nb (s.get! pos) ∧ ((s.get! pos).toNat < 128 → (Utf8.decode s pos).2 = 1) := by
        by_cases h : (s.get! pos).toNat < 128
        · rw [dec_small s pos h]
          exact ⟨rn_nb _, fun _ => rfl⟩
        · exact ⟨by rw [rn_big (by have := (dec_big s pos h).1; omega), nb_big (by omega)]; rfl, fun h' => absurd h' h⟩
      obtain ⟨R, hR⟩ : ∃ R, (Utf8.decode s pos).1 = R := ⟨_, rfl⟩
      obtain ⟨K, hK⟩ : ∃ K, (Utf8.decode s pos).2 = K := ⟨_, rfl⟩
      rw [hR, hK] at hnx hbig
      have hit2 := Lib.iterAt_heap wr w.heap.size s pos (pos + K) hit
      have hbw2 := Lib.below_iterAt hbw.out (k := w.heap.size) (Nat.le_refl _) s (pos + K)
      obtain ⟨W, hWd⟩ : ∃ W, wr.iterAt w.heap.size s (pos + K) = W := ⟨_, rfl⟩
      rw [hWd] at hnx hit2 hbw2
      have HB2 := Lib.hid hbw2
      have HIT := Lib.hid hit2
      have cS := name1 (R : Int) W
      have hfull := get_drop s pos hp
      have HF := Lib.hid hfull
      have HBG := Lib.hid hbig
      clear hfull hbw2 hit2 hbig
      cases hsp : nb (s.get! pos) with
      | true =>
        have hr : rn (R : Int) = false := by rw [HBG.out.1, hsp]; rfl
        have hK1 : K = 1 := HBG.out.2 (by
          rcases Nat.lt_or_ge (s.get! pos).toNat 128 with h | h
          · exact h
          · rw [nb_big h] at hsp; cases hsp)
        rw [hr] at cS
        go_wp2_with fail
        refine cS.mono ?_
        rintro e W' ⟨rfl, rfl⟩
        go_wp2
        go_roundg (gk - 1)
        case measure => omega
        case rel => exact ⟨pos + 1, hK1 ▸ HIT.out, HB2.out, by show _ = true; rw [HF.out, List.all_append, hall.out]; simp [hsp], by omega⟩
      | false =>
        have hr : rn (R : Int) = true := by rw [HBG.out.1, hsp]; rfl
        rw [hr] at cS
        go_wp2_with fail
        refine cS.mono ?_
        rintro e W' ⟨rfl, rfl⟩
        go_wp2
        go_ret
        refine ⟨_, rfl, ?_, HB2.out⟩
        have h0 : s.data.toList.all nb = false := by
          rw [← List.take_append_drop (pos + 1) s.data.toList, HF.out]
          simp [hsp]
        rw [h0]
        simp
    · have hnx : ∀ ty, (Instr.next (.pointer (some ⟨w.heap.size, 0, none⟩)) true ty).run Tryz.prog wr = _ := fun ty => Lib.run_next_end_at wr w.heap.size s pos ty hit hp
      have hpe : pos = s.size := by omega
      go_wp2
      go_ret
      refine ⟨_, rfl, ?_, hbw.out⟩
      have := hall.out
      rw [hpe, Lib.size_eq, List.take_length] at this
      rw [this]
      rfl

end Go.Proofs.YtlnjbadbpddlmaaGreatDoor

namespace Go.Proofs.YtlnjbadbpddlmaaGreatDoor
open Go.RowKit

set_option maxHeartbeats 1000000 in
theorem containsFunc_name (s : ByteArray) (w : World) :
    Calls Tryz.prog 75 #[.string s, .func (.func 74) #[] #[]] w fun e w' => e = .returned (.bool (!(s.data.toList.all nb))) ∧ Below w.heap.size w w' := by
  have h1 : Calls Tryz.prog 85 #[.string s, .func (.func 74) #[] #[]] w fun e w' => ∃ i : Int, e = .returned (.int .i64 i) ∧ decide (0 ≤ i) = !(s.data.toList.all nb) ∧ Below w.heap.size w w' := by
    go_enter Tryz.func85, Tryz.ntmps85
    go_wp2_with fail
    refine (indexFunc_name s w).mono ?_
    rintro e w1 ⟨i, rfl, hi, hb⟩
    have HI := Lib.hid hi
    have HB := Lib.hid hb
    clear hi hb
    go_wp2
    go_ret
    exact ⟨i, rfl, HI.out, HB.out⟩
  have H1 := Lib.hid h1
  clear h1
  go_enter Tryz.func75, Tryz.ntmps75
  go_wp2_with fail
  refine H1.out.mono ?_
  rintro e w1 ⟨i, rfl, hi, hb⟩
  have HI := Lib.hid hi
  have HB := Lib.hid hb
  clear hi hb
  go_wp2
  go_ret
  exact ⟨by rw [← HI.out] <;> rfl, HB.out⟩

set_option maxHeartbeats 1000000 in
theorem name_any (s : ByteArray) (w : World) :
    Calls Tryz.prog 52 #[.string s] w fun e w' => e = .returned (.bool (nm s.data.toList)) ∧ Below w.heap.size w w' := by
  have hsz := Lib.size_eq s
  by_cases h0 : s.size = 0
  · have hs : s = ⟨#[]⟩ := by
      have : s.data.toList = [] := List.length_eq_zero_iff.1 (by omega)
      rw [← Lib.mk_data s, this]
    subst hs
    go_enter Tryz.func52, Tryz.ntmps52
    go_wp2
    go_ret
    exact ⟨rfl, Below.refl _ _⟩
  · have hne : ¬ s.toList = [] := fun e => by
      rw [Lib.toList_data] at e
      rw [e] at hsz
      exact h0 hsz
    by_cases h8 : s.size ≤ 8
    · have h8' : (s.size : Int) ≤ 8 := by omega
      have hv : nm s.data.toList = s.data.toList.all nb := by
        simp only [nm, ← hsz]
        simp [h8, show 1 ≤ s.size by omega]
      have HV := Lib.hid hv
      clear hv hsz
      go_enter Tryz.func52, Tryz.ntmps52
      go_wp2_with fail
      refine (containsFunc_name s w).mono ?_
      rintro e w1 ⟨rfl, hb⟩
      have HB := Lib.hid hb
      clear hb
      go_wp2
      go_ret
      exact ⟨by rw [HV.out]; simp [hne], HB.out⟩
    · have h8' : ¬ (s.size : Int) ≤ 8 := by omega
      have hv : nm s.data.toList = false := by
        simp only [nm, ← hsz]
        simp [h8]
      have HV := Lib.hid hv
      clear hv hsz
      go_enter Tryz.func52, Tryz.ntmps52
      go_wp2
      go_ret
      exact ⟨by rw [HV.out]; rfl, Below.refl _ _⟩
end Go.Proofs.YtlnjbadbpddlmaaGreatDoor

namespace Go.Proofs.YtlnjbadbpddlmaaGreatDoor
open Go.RowKit Go.Shelf
attribute [local go_sem] Oper.semAt_some

theorem lt_cell {w : World} {a : Addr} {x : Value} (h : w.cell? a = some x) : a.block < w.heap.size := by
  rcases Nat.lt_or_ge a.block w.heap.size with h' | h'
  · exact h'
  · simp [World.cell?, Array.getElem?_eq_none h'] at h
theorem keeps_below {W W' : World} (h : Below W.heap.size W W') : KeepsOthers W W' := ⟨h.size, fun k _ hk _ => (h.block k (Array.getElem?_eq_some_iff.1 hk).1).trans hk⟩
theorem below_cellk {W W' : World} {B : Nat} {v : Value} (h : Below W.heap.size W W') (hc : W.cell? ⟨B, 0, none⟩ = some v) : W'.cell? ⟨B, 0, none⟩ = some v := (h.cell (p := ⟨B, 0, none⟩) (lt_cell hc)).trans hc
theorem below_frozenk {W W' : World} {B : Nat} {v : Value} {f : Bool} (h : Below W.heap.size W W') (hc : W.cell? ⟨B, 0, none⟩ = some v) (hf : W.frozen? ⟨B, 0, none⟩ = f) : W'.frozen? ⟨B, 0, none⟩ = f := (h.frozen (p := ⟨B, 0, none⟩) (lt_cell hc)).trans hf

theorem dp_done {p : ByteArray} (hh : p.data.toList.head? = some 47) (h6 : (prts p).length ≤ 6) (hn : ∀ y ∈ prts p, nm y.data.toList = true) : dp p.data.toList = ((prts p).length : Int) := by
  have : isP p.data.toList := ⟨hh, by simpa [prts] using h6, fun x hx => hn (bs x) (List.mem_map.2 ⟨x, hx, rfl⟩)⟩
  rw [dp_pos this]
  simp [prts]
theorem dp_stop {p : ByteArray} {pre : List ByteArray} (hpre : pre <+: prts p) (h : 6 < pre.length ∨ ∃ y ∈ pre, nm y.data.toList = false) : dp p.data.toList = -1 := by
  refine dp_neg fun hp => ?_
  rcases h with h | ⟨y, hy, hn⟩
  · have h1 := hpre.length_le
    have h2 := hp.2.1
    simp only [prts, List.length_map] at h1
    omega
  · obtain ⟨z, hz, rfl⟩ := List.mem_map.1 (hpre.subset hy)
    have := hp.2.2 z hz
    rw [data_bs, this] at hn
    cases hn

set_option maxRecDepth 100000 in
set_option maxHeartbeats 4000000 in
theorem deep_slash (p : ByteArray) (hh : p.data.toList.head? = some 47) (hz : p.size ≤ 9223372036854775807) (w : World) :
    Calls Tryz.prog 34 #[.string p] w fun e w' => e = .returned (.int .i64 (dp p.data.toList)) ∧ Below w.heap.size w w' := by
  refine (callsIn_wide (n := 3)).1 ?_
  refine callsIn_of_wp_marks Tryz.func34 rfl trivial ?_ rfl
  simp only [Tryz.ntmps34, List.size_toArray, List.length_cons, List.length_nil, Nat.reduceAdd, Nat.reduceSub, Array.replicate_succ, Array.replicate_zero, List.push_toArray, List.append_toArray, List.nil_append, List.cons_append]
  have hpre : ([47] : List UInt8).isPrefixOf p.data.toList = true := by
    cases h : p.data.toList with
    | nil => rw [h] at hh; cases hh
    | cons c r => rw [h] at hh; obtain rfl : c = 47 := by simpa using hh
                  simp
  have HH := Lib.hid hh
  have HP := Lib.hid hpre
  have HZ := Lib.hid hz
  clear hh hz hpre
  gi_wp2_with (refine ⟨trivial, ?_⟩; gi_at_call 50; refine (callsIn_wide.2 (hasPrefix_any p ⟨#[47]⟩ _)).mono ?_; rintro e w' ⟨rfl, rfl⟩; rw [show ([47] : List UInt8).isPrefixOf p.data.toList = true from HP.out])
  refine ⟨trivial, ?_⟩
  refine (callsIn_wide.2 (parts_any p _)).mono ?_
  rintro e w' ⟨rfl, rfl⟩
  gi_wp2
  have c0 := Boxed.new w 3 (.int .i64 0)
  have c1 := Boxed.new (w.alloc (.cells #[.int .i64 0] 3)) 3 (.int .i64 0)
  have c2 := Boxed.new ((w.alloc (.cells #[.int .i64 0] 3)).alloc (.cells #[.int .i64 0] 3)) 9 (.string p)
  simp only [World.size_alloc] at c1 c2
  have hB0 : Below w.heap.size w (((w.alloc (.cells #[.int .i64 0] 3)).alloc (.cells #[.int .i64 0] 3)).alloc (.cells #[.string p] 9)) := (((Below.refl _ w).alloc (Nat.le_refl _) _).alloc (by simp) _).alloc (by simp; omega) _
  refine wpIn_rangeFunc_ownF rfl (by omega) (gf := 72) (lb := #[.pointer (some ⟨w.heap.size + 1 + 1, 0, none⟩)]) rfl trivial (enters_of Tryz.func72 (by kernel_rfl) rfl)
    (parts_stops _ (by omega) (w.heap.size + 1 + 1) w.heap.size p HH.out HZ.out _ (by simp) c2.cell) belowK_t (belowK_b (by simp; omega)) (Below.refl _ _) (fun _ => rfl)
    (fun pre W => (Hid (pre.length ≤ 6 ∧ ∀ y ∈ pre, nm y.data.toList = true) ∧ (W.cell? ⟨w.heap.size, 0, none⟩ = some (.int .i64 0) ∧ W.frozen? ⟨w.heap.size, 0, none⟩ = false) ∧ W.cell? ⟨w.heap.size + 1, 0, none⟩ = some (.int .i64 (pre.length : Int)) ∧ W.frozen? ⟨w.heap.size + 1, 0, none⟩ = false) ∧ Below w.heap.size w W)
    (fun c pre W => (c = .ret ∧ Hid (6 < pre.length ∨ ∃ y ∈ pre, nm y.data.toList = false) ∧ W.cell? ⟨w.heap.size, 0, none⟩ = some (.int .i64 (-1))) ∧ Below w.heap.size w W)
    (OwnFrom.and (Own.from (fun s A B row hs hg hr => ⟨hs.1, ⟨cell_kept hs.2.1.1 hg hr, (frozen_kept hs.2.1.1 hg hr).trans hs.2.1.2⟩, cell_kept hs.2.2.1 hg hr, (frozen_kept hs.2.2.1 hg hr).trans hs.2.2.2⟩) _) (ownFrom_below (Nat.le_refl _) (by simp; omega)))
    (fun c => OwnFrom.and (Own.from (fun s A B row hs hg hr => ⟨hs.1, hs.2.1, cell_kept hs.2.2 hg hr⟩) _) (ownFrom_below (Nat.le_refl _) (by simp; omega)))
    ⟨⟨⟨by simp, by simp⟩, ⟨((c0.alloc _).alloc _).cell, ((c0.alloc _).alloc _).frozen⟩, (c1.alloc _).cell, (c1.alloc _).frozen⟩, hB0⟩
    (fun x => { tmps := #[.string p, undef, .pointer (some ⟨w.heap.size, 0, none⟩), .pointer (some ⟨w.heap.size + 1, 0, none⟩), .string x, .string p, .bool true, .bool false, .string p, .func (.func 72) #[] #[.pointer (some ⟨w.heap.size + 1 + 1, 0, none⟩)], .string x, undef, undef, undef, undef, undef, undef, undef, undef, undef, undef], defers := [] }) ?assign ?body ?done ?stop
  case assign =>
    intro l x W K hK
    gi_wp2
    exact hK
  case body =>
    rintro l pre x W ⟨⟨hp, ⟨hc0, hf0⟩, hc1, hf1⟩, hB⟩ _
    have HB := Lib.hid hB
    clear hB c0 c1 c2 hB0
    by_cases h6 : pre.length = 6
    · rw [h6] at hc1
      gi_wp2
      refine ⟨trivial, ?_⟩
      gi_wp2
      exact ⟨KeepsOthers.setCell _ _ _, ⟨rfl, .inl (by simp [h6]), World.cell?_setCell_same' _ _ _ (by rw [hc0]; rfl)⟩, HB.out.setCell (p := ⟨w.heap.size, 0, none⟩) (Nat.le_refl _) _⟩
    · have h6' : ((pre.length : Int) == 6) = false := by simp; omega
      have hle : pre.length < 6 := by have := hp.out.1; omega
      have hw1 : IntKind.i64.wrap ((pre.length : Int) + 1) = (pre.length : Int) + 1 := IntWalk.i64_in _ (by omega)
      cases hnm : nm x.data.toList with
      | false =>
        gi_wp2_with (refine ⟨trivial, ?_⟩; gi_at_call 52; refine (CallsIn.inRound l (callsIn_wide.2 (name_any x _))).mono ?_)
        rintro e w1 ⟨rfl, hb⟩
        rw [hnm]
        have hc0' := below_cellk hb hc0
        have hf0' := below_frozenk hb hc0 hf0
        have HB1 := Lib.hid hb
        clear hb
        gi_wp2
        exact ⟨(keeps_below HB1.out).trans (KeepsOthers.setCell _ _ _), ⟨rfl, .inr ⟨x, by simp, hnm⟩, World.cell?_setCell_same' _ _ _ (by rw [hc0']; rfl)⟩, (HB.out.trans (HB1.out.mono HB.out.size)).setCell (p := ⟨w.heap.size, 0, none⟩) (Nat.le_refl _) _⟩
      | true =>
        gi_wp2_with (refine ⟨trivial, ?_⟩; gi_at_call 52; refine (CallsIn.inRound l (callsIn_wide.2 (name_any x _))).mono ?_)
        rintro e w1 ⟨rfl, hb⟩
        rw [hnm]
        have hc0' := below_cellk hb hc0
        have hf0' := below_frozenk hb hc0 hf0
        have hc1' := below_cellk hb hc1
        have hf1' := below_frozenk hb hc1 hf1
        have HB1 := Lib.hid hb
        clear hb
        gi_wp2
        have hB1 := HB.out.trans (HB1.out.mono HB.out.size)
        refine ⟨(keeps_below HB1.out).trans (KeepsOthers.setCell _ _ _), (HB1.out.mono HB.out.size).setCell (p := ⟨w.heap.size + 1, 0, none⟩) (by simp) _, ⟨⟨?_, ?_⟩, ⟨?_, ?_⟩, ?_, ?_⟩, hB1.setCell (p := ⟨w.heap.size + 1, 0, none⟩) (by simp) _⟩
        · simp; omega
        · intro y hy
          rcases List.mem_append.1 hy with hy | hy
          · exact hp.out.2 y hy
          · obtain rfl : y = x := by simpa using hy
            exact hnm
        · rw [World.cell?_setCell_other (h := by simp)]
          exact hc0'
        · rw [World.frozen?_setCell]; exact hf0'
        · rw [World.cell?_setCell_same' _ _ _ (by rw [hc1']; rfl)]
          simp
        · rw [World.frozen?_setCell]; exact hf1'
  case done =>
    rintro D ys W hD rfl ⟨⟨hp, ⟨hc0, hf0⟩, hc1, _⟩, hB⟩ hK
    have HB := Lib.hid hB
    clear hB
    gi_wp2
    have hK' := (KeepsOthers.setCell W ⟨w.heap.size, 0, none⟩ (.int .i64 ((prts p).length : Int))).same D _ hK rfl
    refine ⟨by simp, .inl ⟨_, _, rfl, run_takeDeferred hK', ?_⟩⟩
    have hc5 := cell_kept (World.cell?_setCell_same' W ⟨w.heap.size, 0, none⟩ (.int .i64 ((prts p).length : Int)) (by rw [hc0]; rfl)) (grownBy_putObj' _ D (.deferred none)) (fun r e => by cases e; exact ⟨_, hK', rfl⟩)
    refine ⟨.int .i64 ((prts p).length : Int), ?_, by rw [dp_done HH.out hp.out.1 hp.out.2], (HB.out.setCell (p := ⟨w.heap.size, 0, none⟩) (Nat.le_refl _) _).trans (belowK_b (w := w) (Nat.le_refl _) _ D _ _ (by simp at hD; omega) hK' rfl rfl)⟩
    simp [results, Tryz.f34, go_sem, hc5]
  case stop =>
    rintro D c pre W hD hpre ⟨⟨rfl, hin, hcr⟩, hB⟩ hK
    have HB := Lib.hid hB
    clear hB
    gi_wp2
    refine ⟨by simp, .inl ⟨_, _, rfl, run_takeDeferred hK, ?_⟩⟩
    have hc5 := cell_kept hcr (grownBy_putObj' _ D (.deferred none)) (fun r e => by cases e; exact ⟨_, hK, rfl⟩)
    refine ⟨.int .i64 (-1), ?_, by rw [dp_stop hpre hin.out], HB.out.trans (belowK_b (w := w) (Nat.le_refl _) W D _ _ (by simp at hD; omega) hK rfl rfl)⟩
    simp [results, Tryz.f34, go_sem, hc5]
end Go.Proofs.YtlnjbadbpddlmaaGreatDoor

namespace Go.Proofs.YtlnjbadbpddlmaaGreatDoor
open Go.RowKit

set_option maxHeartbeats 1000000 in
theorem deep_any (p : ByteArray) (hz : p.size ≤ 9223372036854775807) (w : World) :
    Calls Tryz.prog 34 #[.string p] w fun e w' => e = .returned (.int .i64 (dp p.data.toList)) ∧ Below w.heap.size w w' := by
  by_cases hh : p.data.toList.head? = some 47
  · exact deep_slash p hh hz w
  · have hpre : ([47] : List UInt8).isPrefixOf p.data.toList = false := by
      cases h : p.data.toList with
      | nil => rfl
      | cons c r =>
        rw [h] at hh
        have : (47 == c) = false := by
          rw [beq_eq_false_iff_ne]
          exact fun e => hh (by rw [← e]; rfl)
        simp [List.isPrefixOf, this]
    have hd : dp p.data.toList = -1 := dp_neg fun h => hh h.1
    have HD := Lib.hid hd
    have HP := Lib.hid hpre
    clear hd hh hz hpre
    go_enter Tryz.func34, Tryz.ntmps34
    go_wp2_with fail
    refine (hasPrefix_any p ⟨#[47]⟩ _).mono ?_
    rintro e w' ⟨rfl, rfl⟩
    rw [show ([47] : List UInt8).isPrefixOf p.data.toList = false from HP.out]
    go_wp2
    refine bodyPost_ret_by (v := .int .i64 (-1)) (by simp [results, Tryz.f34, go_sem]) rfl ?_
    exact ⟨by rw [HD.out], (Below.refl _ w).alloc (Nat.le_refl _) _⟩

theorem eq_slash (p : ByteArray) : (p.toList == [47]) = decide (p.data.toList = [47]) := by
  rw [Lib.toList_data, Bool.eq_iff_iff]
  simp
theorem ba_append (a b : ByteArray) : (a ++ b).data.toList = a.data.toList ++ b.data.toList := by
  rw [ByteArray.data_append]
  simp

set_option maxHeartbeats 2000000 in
theorem under_any (p q : ByteArray) (hp : p.size ≤ 9223372036854775807) (hq : q.size ≤ 9223372036854775000) (w : World) :
    Calls Tryz.prog 43 #[.string p, .string q] w fun e w' => e = .returned (.bool (und p.data.toList q.data.toList)) ∧ Below w.heap.size w w' := by
  have HP := Lib.hid hp
  have HQ := Lib.hid hq
  have hsum : ¬ 9223372036854775807 < q.size + 1 := by omega
  clear hp hq
  by_cases h1 : isP p.data.toList
  · have d1 : ¬ dp p.data.toList < 0 := fun h => dp_lt.1 h h1
    obtain ⟨m1, hm1⟩ : ∃ m, dp p.data.toList = m := ⟨_, rfl⟩
    rw [hm1] at d1
    have HM1 := Lib.hid hm1
    clear hm1
    by_cases h2 : isP q.data.toList
    · have hu := und_eq h1 h2
      have d2 : ¬ dp q.data.toList < 0 := fun h => dp_lt.1 h h2
      obtain ⟨m2, hm2⟩ : ∃ m, dp q.data.toList = m := ⟨_, rfl⟩
      rw [hm2] at d2
      have HM2 := Lib.hid hm2
      clear hm2 h1 h2
      cases hs : (q.toList == [47]) with
      | true =>
        rw [eq_slash, decide_eq_true_iff] at hs
        rw [if_pos hs] at hu
        have hs' : (q.toList == [47]) = true := by rw [eq_slash]; simpa using hs
        have HU := Lib.hid hu
        clear hu hs
        go_enter Tryz.func43, Tryz.ntmps43
        go_wp2_with fail
        refine (deep_any p HP.out _).mono ?_
        rintro e w1 ⟨rfl, hb⟩
        rw [HM1.out]
        have HB := Lib.hid hb
        clear hb
        go_wp2_with fail
        refine (deep_any q (Nat.le_trans HQ.out (by omega)) _).mono ?_
        rintro e w2 ⟨rfl, hb⟩
        rw [HM2.out]
        have HB2 := Lib.hid (HB.out.trans (hb.mono HB.out.size))
        clear hb HB
        go_wp2
        go_ret
        exact ⟨by rw [HU.out]; simp [eq_slash], HB2.out⟩
      | false =>
        rw [eq_slash, decide_eq_false_iff_not] at hs
        rw [if_neg hs] at hu
        have hs' : (q.toList == [47]) = false := by rw [eq_slash]; simpa using hs
        have HU := Lib.hid hu
        clear hu hs
        go_enter Tryz.func43, Tryz.ntmps43
        go_wp2_with fail
        refine (deep_any p HP.out _).mono ?_
        rintro e w1 ⟨rfl, hb⟩
        rw [HM1.out]
        have HB := Lib.hid hb
        clear hb
        go_wp2_with fail
        refine (deep_any q (Nat.le_trans HQ.out (by omega)) _).mono ?_
        rintro e w2 ⟨rfl, hb⟩
        rw [HM2.out]
        have HB2 := Lib.hid (HB.out.trans (hb.mono HB.out.size))
        clear hb HB
        go_wp2_with fail
        refine (hasPrefix_any p _ _).mono ?_
        rintro e w3 ⟨rfl, rfl⟩
        rw [show (q ++ ⟨#[47]⟩ : ByteArray).data.toList = q.data.toList ++ [47] from ba_append _ _, ← HU.out]
        go_wp2
        go_ret
        exact ⟨rfl, HB2.out⟩
    · have d2 : dp q.data.toList < 0 := dp_lt.2 h2
      have hu := und_neg (p := p.data.toList) (.inr h2)
      obtain ⟨m2, hm2⟩ : ∃ m, dp q.data.toList = m := ⟨_, rfl⟩
      rw [hm2] at d2
      have HM2 := Lib.hid hm2
      have HU := Lib.hid hu
      clear hm2 h1 h2 hu
      go_enter Tryz.func43, Tryz.ntmps43
      go_wp2_with fail
      refine (deep_any p HP.out _).mono ?_
      rintro e w1 ⟨rfl, hb⟩
      rw [HM1.out]
      have HB := Lib.hid hb
      clear hb
      go_wp2_with fail
      refine (deep_any q (Nat.le_trans HQ.out (by omega)) _).mono ?_
      rintro e w2 ⟨rfl, hb⟩
      rw [HM2.out]
      have HB2 := Lib.hid (HB.out.trans (hb.mono HB.out.size))
      clear hb HB
      go_wp2
      go_ret
      exact ⟨by rw [HU.out] <;> rfl, HB2.out⟩
  · have d1 : dp p.data.toList < 0 := dp_lt.2 h1
    have hu := und_neg (q := q.data.toList) (.inl h1)
    obtain ⟨m1, hm1⟩ : ∃ m, dp p.data.toList = m := ⟨_, rfl⟩
    rw [hm1] at d1
    have HM1 := Lib.hid hm1
    have HU := Lib.hid hu
    clear hm1 h1 hu
    go_enter Tryz.func43, Tryz.ntmps43
    go_wp2_with fail
    refine (deep_any p HP.out _).mono ?_
    rintro e w1 ⟨rfl, hb⟩
    rw [HM1.out]
    have HB := Lib.hid hb
    clear hb
    go_wp2
    go_ret
    exact ⟨by rw [HU.out] <;> rfl, HB.out⟩
end Go.Proofs.YtlnjbadbpddlmaaGreatDoor
