/-
  Two layers made one (chapter 15), path by path; the document's answer; three layers, whichever two are first. No condition.
  What the laws of layer 15 ask, by lists: a layer merged with itself; three layers; a stack with both, and with the one. No condition.
  Small facts for the walks of layer 12's laws. No condition.
  A stack of layers that a call made itself, told by a list of lists: append. No condition but that it fits.
  append to a slice of a call's own: whose block it is that holds what is made: the one that was, or a new one. No condition but that it fits.
  Two stacks of layers that a call makes side by side, by append: each keeps its own block. No condition but that it fits.
-/
import Derived.Test.YtlnjbadbpddlmaaGreatDoorPb
import Derived.Test.YtlnjbadbpddlmaaGreatDoorPd
import Derived.Test.YtlnjbadbpddlmaaGreatDoorS10Few
import Derived.Test.YtlnjbadbpddlmaaGreatDoorPc
import Derived.Test.YtlnjbadbpddlmaaGreatDoorPm
import Derived.WalkKit
import Derived.Laws.AppendOwn
import Derived.Laws.OwnMore
import Derived.OwnWalkIn
import Derived.RangeFuncBox
namespace Go.Proofs.YtlnjbadbpddlmaaGreatDoor
open Go.RowKit

/-- Is a path hidden from above by a layer? -/
def hid15 (h : List Ent) (p : List UInt8) : Bool := h.any fun e => decide (e.2.1 ≠ 2) && und p (pl e)
/-- An entry laid over what is at its path. -/
def st15 (p : List UInt8) (b : Option Ent) : Option Ent → Option Ent
  | none => b
  | some e => if e.2.1 = 2 then (match b with
    | none => some e
    | some d => if d.2.1 = 1 ∨ d.2.1 = 3 then some (oE ⟨p.toArray⟩) else some d) else some e
theorem hid_snoc (h : List Ent) (e : Ent) (p : List UInt8) : hid15 (h ++ [e]) p = (hid15 h p || (decide (e.2.1 ≠ 2) && und p (pl e))) := by
  unfold hid15
  rw [List.any_append]
  simp
theorem fnd_snoc (h : List Ent) (e : Ent) (p : List UInt8) : fnd (h ++ [e]) p = match fnd h p with
    | some x => some x
    | none => if pl e = p then some e else none := by
  unfold fnd
  rw [List.find?_append]
  cases h.find? fun e => decide (pl e = p) with
  | some x => rfl
  | none =>
    by_cases hp : pl e = p
    · simp [hp]
    · simp [hp]
theorem fnd_rst (l : List Ent) (q p : List UInt8) : fnd (rst l q) p = if und p q = true ∨ p = q then none else fnd l p := by
  by_cases h : und p q = true ∨ p = q
  · rw [if_pos h]
    refine fnd_none.2 fun e he hp => ?_
    obtain ⟨_, h1, h2⟩ := mem_rst.1 he
    rw [hp] at h1 h2
    rcases h with h | h
    · rw [h] at h1; cases h1
    · exact h2 h
  · rw [if_neg h]
    unfold fnd rst
    rw [List.find?_filter]
    congr 1
    funext e
    by_cases hp : pl e = p
    · have h1 : und p q = false := by
        cases hu : und p q with
        | false => rfl
        | true => exact absurd (.inl hu) h
      have h2 : p ≠ q := fun e0 => h (.inr e0)
      simp [hp, h1, h2]
    · simp [hp]
theorem fnd_asc_ext {a b : List Ent} (ha : Asc a) (hb : Asc b) (h : ∀ p, fnd a p = fnd b p) : a = b := asc_ext ha hb fun x => by
  constructor
  · intro hx
    exact ((fnd_some hb).1 ((h _).symm.trans ((fnd_some ha).2 ⟨hx, rfl⟩))).1
  · intro hx
    exact ((fnd_some ha).1 ((h _).trans ((fnd_some hb).2 ⟨hx, rfl⟩))).1
theorem none_less {r : List Ent} {p : List UInt8} (h : ∀ a ∈ r, lt8 (pl a) p = true) : fnd r p = none := fnd_none.2 fun e he => lt8_ne (h e he)
/-- Path by path. -/
theorem fnd_mrg {l : List Ent} (hA : Asc l) (p : List UInt8) : ∀ n (h : List Ent), h.length = n → Asc h → fnd (mrg l h) p = st15 p (if hid15 h p = true then none else fnd l p) (fnd h p)
  | 0, h, hn, _ => by rw [List.length_eq_zero_iff.1 hn]; rfl
  | n + 1, h, hn, hH => by
    rcases List.eq_nil_or_concat h with rfl | ⟨r, b, rfl⟩
    · simp at hn
    · rw [List.concat_eq_append] at *
      obtain ⟨a1, a2⟩ := asc_snoc.1 hH
      have ih := fnd_mrg hA p n r (by simpa using hn) a1
      have hAm := mrg_asc r hA
      rw [mrg_snoc, hid_snoc, fnd_snoc]
      by_cases k2 : b.2.1 = 2
      · have hb2 : decide (b.2.1 ≠ 2) = false := decide_eq_false (not_not_intro k2)
        rw [hb2, Bool.false_and, Bool.or_false]
        by_cases hp : pl b = p
        · subst hp
          rw [none_less a2] at ih ⊢
          simp only [if_true]
          have ih : fnd (mrg l r) (pl b) = if hid15 r (pl b) = true then none else fnd l (pl b) := ih
          rw [← ih]
          unfold st15 one15
          rw [if_pos k2]
          simp only [if_pos k2]
          cases hf : fnd (mrg l r) (pl b) with
          | none =>
            simp only
            rw [fnd_wth hAm, if_pos rfl]
          | some d =>
            simp only
            by_cases hd9 : d.2.1 = 1 ∨ d.2.1 = 3
            · rw [if_pos hd9, if_pos hd9, fnd_wth hAm, if_pos (show pl b = pl (oE b.1) from rfl)]
            · rw [if_neg hd9, if_neg hd9, hf]
        · have h1 : fnd (one15 (mrg l r) b) p = fnd (mrg l r) p := by
            unfold one15
            rw [if_pos k2]
            cases hf : fnd (mrg l r) (pl b) with
            | none =>
              simp only
              rw [fnd_wth hAm, if_neg (fun e => hp e.symm)]
            | some d =>
              simp only
              split
              · rw [fnd_wth hAm, if_neg (fun e => hp e.symm)]
              · rfl
          rw [h1, ih]
          simp only [if_neg hp]
          cases fnd r p <;> rfl
      · have hb2 : decide (b.2.1 ≠ 2) = true := decide_eq_true k2
        rw [hb2, Bool.true_and]
        have h1 : fnd (one15 (mrg l r) b) p = if p = pl b then some b else if und p (pl b) = true ∨ p = pl b then none else fnd (mrg l r) p := by
          unfold one15
          rw [if_neg k2, fnd_wth (asc_rst hAm _), fnd_rst]
        rw [h1]
        by_cases hp : p = pl b
        · subst hp
          rw [if_pos rfl, none_less a2]
          simp only [if_true]
          unfold st15
          simp only [if_neg k2]
        · rw [if_neg hp]
          by_cases hu : und p (pl b) = true
          · rw [if_pos (.inl hu), hu, Bool.or_true, none_less fun a ha => lt8_trans (a2 a ha) (und_lt hu)]
            simp only [if_neg (show ¬ pl b = p from fun e => hp e.symm)]
            rfl
          · rw [if_neg (fun h => h.elim hu hp), ih]
            have hu : und p (pl b) = false := by simpa using hu
            rw [hu, Bool.or_false]
            simp only [if_neg (show ¬ pl b = p from fun e => hp e.symm)]
            cases fnd r p <;> rfl
theorem fnd_mrg' {l h : List Ent} (hA : Asc l) (hH : Asc h) (p : List UInt8) : fnd (mrg l h) p = st15 p (if hid15 h p = true then none else fnd l p) (fnd h p) := fnd_mrg hA p _ h rfl hH
theorem hid_iff {h : List Ent} {p : List UInt8} : hid15 h p = true ↔ ∃ e ∈ h, e.2.1 ≠ 2 ∧ und p (pl e) = true := by
  unfold hid15
  rw [List.any_eq_true]
  simp only [Bool.and_eq_true, decide_eq_true_iff]
/-- What two layers made one hide is what one of them hides. -/
theorem hid_mrg {b c : List Ent} (hB : Asc b) (hC : Asc c) (p : List UInt8) : hid15 (mrg b c) p = (hid15 b p || hid15 c p) := by
  have hM := mrg_asc c hB
  rw [Bool.eq_iff_iff, Bool.or_eq_true, hid_iff, hid_iff, hid_iff]
  constructor
  · rintro ⟨e, he, h1, h2⟩
    have h3 := (fnd_some hM).2 ⟨he, rfl⟩
    rw [fnd_mrg' hB hC] at h3
    cases hc : fnd c (pl e) with
    | none =>
      rw [hc] at h3
      by_cases hh : hid15 c (pl e) = true
      · rw [if_pos hh] at h3; cases h3
      · rw [if_neg hh] at h3
        exact .inl ⟨e, ((fnd_some hB).1 h3).1, h1, h2⟩
    | some x =>
      rw [hc] at h3
      obtain ⟨x1, x2⟩ := (fnd_some hC).1 hc
      by_cases k2 : x.2.1 = 2
      · unfold st15 at h3
        simp only [if_pos k2] at h3
        by_cases hh : hid15 c (pl e) = true
        · rw [if_pos hh] at h3
          simp only [Option.some.injEq] at h3
          rw [h3] at k2
          exact absurd k2 h1
        · rw [if_neg hh] at h3
          cases hb : fnd b (pl e) with
          | none =>
            rw [hb] at h3
            simp only [Option.some.injEq] at h3
            rw [h3] at k2
            exact absurd k2 h1
          | some d =>
            obtain ⟨d1, d2⟩ := (fnd_some hB).1 hb
            rw [hb] at h3
            simp only at h3
            refine .inl ⟨d, d1, fun k => ?_, by rw [d2]; exact h2⟩
            rw [if_neg (by omega)] at h3
            simp only [Option.some.injEq] at h3
            exact h1 (h3 ▸ k)
      · exact .inr ⟨x, x1, k2, by rw [x2]; exact h2⟩
  · rintro (⟨e, he, h1, h2⟩ | ⟨e, he, h1, h2⟩)
    · -- an entry of the low one: it, or what took its place, or hid it
      by_cases hh : hid15 c (pl e) = true
      · obtain ⟨x, x1, x2, x3⟩ := hid_iff.1 hh
        -- the greatest such: one that c does not hide
        have key : ∀ n, ∀ x ∈ c, (pl x).length = n → x.2.1 ≠ 2 → und p (pl x) = true → ∃ y ∈ mrg b c, y.2.1 ≠ 2 ∧ und p (pl y) = true := by
          intro n x hx _ k hu
          refine ⟨x, ?_, k, hu⟩
          refine ((fnd_some hM (p := pl x)).1 ?_).1
          rw [fnd_mrg' hB hC, (fnd_some hC).2 ⟨hx, rfl⟩]
          unfold st15
          simp only [if_neg k]
        exact key _ x x1 rfl x2 (und_trans12 h2 x3)
      · have h3 := fnd_mrg' hB hC (pl e)
        rw [if_neg hh, (fnd_some hB).2 ⟨he, rfl⟩] at h3
        cases hc : fnd c (pl e) with
        | none =>
          rw [hc] at h3
          exact ⟨e, ((fnd_some hM).1 h3).1, h1, h2⟩
        | some x =>
          rw [hc] at h3
          obtain ⟨x1, x2⟩ := (fnd_some hC).1 hc
          unfold st15 at h3
          by_cases k2 : x.2.1 = 2
          · simp only [if_pos k2] at h3
            by_cases k : e.2.1 = 1 ∨ e.2.1 = 3
            · rw [if_pos k] at h3
              exact ⟨_, ((fnd_some hM).1 h3).1, show (4 : Int) ≠ 2 by decide, by rw [((fnd_some hM).1 h3).2]; exact h2⟩
            · rw [if_neg k] at h3
              exact ⟨e, ((fnd_some hM).1 h3).1, h1, h2⟩
          · simp only [if_neg k2] at h3
            exact ⟨x, ((fnd_some hM).1 h3).1, k2, by rw [x2]; exact h2⟩
    · have h3 := fnd_mrg' hB hC (pl e)
      rw [(fnd_some hC).2 ⟨he, rfl⟩] at h3
      unfold st15 at h3
      simp only [if_neg h1] at h3
      exact ⟨e, ((fnd_some hM).1 h3).1, h1, h2⟩
theorem st_assoc (p : List UInt8) (a b c : Option Ent) : st15 p (st15 p a b) c = st15 p a (st15 p b c) := by
  cases c with
  | none => rfl
  | some c =>
    by_cases kc : c.2.1 = 2
    · cases b with
      | none => 
        show st15 p a (some c) = st15 p a (st15 p none (some c))
        have : st15 p none (some c) = some c := by unfold st15; simp only [if_pos kc]
        rw [this]
      | some b =>
        by_cases kb : b.2.1 = 2
        · have h1 : st15 p (some b) (some c) = some b := by unfold st15; simp only [if_pos kc]; rw [if_neg (by omega)]
          rw [h1]
          cases a with
          | none =>
            have h2 : st15 p none (some b) = some b := by unfold st15; simp only [if_pos kb]
            rw [h2, h1]
          | some a =>
            by_cases ka : a.2.1 = 1 ∨ a.2.1 = 3
            · have h2 : st15 p (some a) (some b) = some (oE ⟨p.toArray⟩) := by unfold st15; simp only [if_pos kb, if_pos ka]
              rw [h2]
              unfold st15
              simp only [if_pos kc]
              split <;> rfl
            · have h2 : st15 p (some a) (some b) = some a := by unfold st15; simp only [if_pos kb, if_neg ka]
              rw [h2]
              unfold st15
              simp only [if_pos kc, if_neg ka]
        · have h1 : ∀ a, st15 p a (some b) = some b := fun a => by unfold st15; simp only [if_neg kb]
          rw [h1]
          by_cases k : b.2.1 = 1 ∨ b.2.1 = 3
          · have h2 : st15 p (some b) (some c) = some (oE ⟨p.toArray⟩) := by unfold st15; simp only [if_pos kc, if_pos k]
            rw [h2]
            unfold st15
            simp only [if_neg (show ¬ ((oE ⟨p.toArray⟩).2.1 = 2) from (show ¬ ((4 : Int) = 2) by decide))]
          · have h2 : st15 p (some b) (some c) = some b := by unfold st15; simp only [if_pos kc, if_neg k]
            rw [h2, h1]
    · have h1 : ∀ a, st15 p a (some c) = some c := fun a => by unfold st15; simp only [if_neg kc]
      rw [h1, h1, h1]
/-- Three layers are made one alike, whichever two are first. -/
theorem mrg_assoc {a b c : List Ent} (hA : Asc a) (hB : Asc b) (hC : Asc c) : mrg (mrg a b) c = mrg a (mrg b c) := by
  refine fnd_asc_ext (mrg_asc c (mrg_asc b hA)) (mrg_asc _ hA) fun p => ?_
  rw [fnd_mrg' (mrg_asc b hA) hC, fnd_mrg' hA hB, fnd_mrg' hA (mrg_asc c hB), fnd_mrg' hB hC, hid_mrg hB hC]
  cases hid15 c p with
  | true =>
    rw [if_pos rfl, if_pos (by simp), if_pos rfl]
    cases hc : fnd c p with
    | none => rfl
    | some x =>
      unfold st15
      by_cases k : x.2.1 = 2
      · simp only [if_pos k]
      · simp only [if_neg k]
  | false =>
    simp only [Bool.or_false, Bool.false_eq_true, if_false]
    exact st_assoc p _ _ _
/-- Three layers at the bottom. -/
theorem bot_assoc {a b c : List Ent} (hA : RL a) (hB : RL b) (hC : RL c) : two15 (two15 a b true) c true = two15 a (two15 b c false) true := by
  have hAB := rl_mrg hA _ b rfl hB
  have hBC := rl_mrg hB _ c rfl hC
  have ht := tr_bot hAB
  have e1 : two15 (two15 a b true) c true = bot15 (mrg (bot15 (mrg a b)) c) := rfl
  have e2 : two15 a (two15 b c false) true = bot15 (mrg a (mrg b c)) := rfl
  rw [e1, e2, bot_over (rl_mrg ht.1 _ c rfl hC), bot_over (rl_mrg hA _ _ rfl hBC), over_mrg List.Pairwise.nil ht.1.1 ht.1.2.1 hC.1, over_nil ht, over_mrg List.Pairwise.nil hA.1 hA.2.1 hBC.1, over_mrg (asc_over List.Pairwise.nil) hB.1 hB.2.1 hC.1, bot_over hAB, over_mrg List.Pairwise.nil hA.1 hA.2.1 hB.1]
/-- The document's answer: of the low one what stays. -/
def kept15 (high : List Ent) (d : Ent) : Bool := !(high.any fun e => decide (e.2.1 ≠ 2) && (decide (pl e = pl d) || und (pl d) (pl e))) && ((fnd high (pl d)).isNone || (d.2.1 == 2 || d.2.1 == 4))
/-- The document's answer: the high one's entry, as it is laid. -/
def laid15 (low high : List Ent) (e : Ent) : Ent := if e.2.1 = 2 ∧ (fnd low (pl e)).isSome = true ∧ hid15 high (pl e) = false then (e.1, 4, e.2.2) else e
/-- One of the high one's, where nothing is yet. -/
def add15 (low high : List Ent) (out : List Ent) (e : Ent) : List Ent := if (fnd out (pl e)).isSome = true then out else wth out (laid15 low high e)
def ref15 (low high : List Ent) : List Ent := high.foldl (add15 low high) (low.filter (kept15 high))
theorem pl_laid (low high : List Ent) (e : Ent) : pl (laid15 low high e) = pl e := by unfold laid15; split <;> rfl
theorem fnd_filter {l : List Ent} (hA : Asc l) (f : Ent → Bool) (p : List UInt8) : fnd (l.filter f) p = match fnd l p with
    | none => none
    | some d => if f d = true then some d else none := by
  cases h : fnd l p with
  | none => exact fnd_none.2 fun e he => fnd_none.1 h e (List.mem_filter.1 he).1
  | some d =>
    obtain ⟨h1, h2⟩ := (fnd_some hA).1 h
    by_cases hf : f d = true
    · simp only [if_pos hf]
      exact (fnd_some (hA.filter _)).2 ⟨List.mem_filter.2 ⟨h1, hf⟩, h2⟩
    · simp only [if_neg hf]
      refine fnd_none.2 fun e he hp => hf ?_
      obtain ⟨e1, e2⟩ := List.mem_filter.1 he
      rw [← asc_inj hA e1 h1 (hp.trans h2.symm)]
      exact e2
theorem add_asc {low high out : List Ent} (h : Asc out) (e : Ent) : Asc (add15 low high out e) := by
  unfold add15
  split
  · exact h
  · exact asc_wth h _
theorem fnd_adds (low high : List Ent) (p : List UInt8) : ∀ (r out : List Ent), Asc out → Asc r → Asc (r.foldl (add15 low high) out) ∧ fnd (r.foldl (add15 low high) out) p = match fnd out p with
    | some d => some d
    | none => (fnd r p).map (laid15 low high)
  | [], out, h, _ => ⟨h, by show fnd out p = _; cases fnd out p <;> rfl⟩
  | e :: r, out, h, hr => by
    obtain ⟨r1, r2⟩ := List.pairwise_cons.1 hr
    obtain ⟨i1, i2⟩ := fnd_adds low high p r (add15 low high out e) (add_asc h e) r2
    refine ⟨i1, ?_⟩
    rw [List.foldl_cons, i2]
    have hc : fnd (e :: r) p = if pl e = p then some e else fnd r p := by
      unfold fnd
      rw [List.find?_cons]
      by_cases hp : pl e = p
      · simp [hp]
      · simp [hp]
    rw [hc]
    by_cases hp : pl e = p
    · rw [if_pos hp]
      unfold add15
      rw [hp]
      cases hf : fnd out p with
      | some d => simp [hf]
      | none => 
        simp only [Option.isSome_none, Bool.false_eq_true, if_false]
        rw [fnd_wth h, pl_laid, if_pos hp.symm]
        rfl
    · rw [if_neg hp]
      have key : fnd (add15 low high out e) p = fnd out p := by
        unfold add15
        split
        · rfl
        · rw [fnd_wth h, pl_laid, if_neg (fun e0 => hp e0.symm)]
      rw [key]
/-- The document's answer is what two layers come to. -/
theorem ref_mrg {low high : List Ent} (hl : RL low) (hh : RL high) : ref15 low high = mrg low high := by
  have hA := hl.2.1
  have hH := hh.2.1
  have hK : Asc (low.filter (kept15 high)) := hA.filter _
  refine fnd_asc_ext (fnd_adds low high [] high _ hK hH).1 (mrg_asc high hA) fun p => ?_
  rw [show fnd (ref15 low high) p = _ from (fnd_adds low high p high _ hK hH).2, fnd_filter hA, fnd_mrg' hA hH]
  have hany : ∀ d : Ent, pl d = p → (high.any fun e => decide (e.2.1 ≠ 2) && (decide (pl e = pl d) || und (pl d) (pl e))) = (hid15 high p || (match fnd high p with | some e => decide (e.2.1 ≠ 2) | none => false)) := fun d hd9 => by
    rw [Bool.eq_iff_iff, List.any_eq_true, Bool.or_eq_true, hid_iff]
    simp only [Bool.and_eq_true, decide_eq_true_iff, Bool.or_eq_true]
    rw [hd9]
    constructor
    · rintro ⟨e, he, h1, h2 | h2⟩
      · rw [(fnd_some hH).2 ⟨he, h2⟩]
        exact .inr (decide_eq_true h1)
      · exact .inl ⟨e, he, h1, h2⟩
    · rintro (⟨e, he, h1, h2⟩ | h)
      · exact ⟨e, he, h1, .inr h2⟩
      · cases hf : fnd high p with
        | none => rw [hf] at h; cases h
        | some e =>
          rw [hf] at h
          obtain ⟨h1, h2⟩ := (fnd_some hH).1 hf
          exact ⟨e, h1, of_decide_eq_true h, .inl h2⟩
  cases hf : fnd high p with
  | none =>
    have hst : ∀ b, st15 p b none = b := fun b => rfl
    rw [hst]
    simp only [Option.map_none]
    cases hl9 : fnd low p with
    | none => cases hid15 high p <;> rfl
    | some d =>
      obtain ⟨d1, d2⟩ := (fnd_some hA).1 hl9
      have hk : kept15 high d = !hid15 high p := by
        unfold kept15
        rw [hany d d2, d2, hf]
        simp
      simp only [hk]
      cases hid15 high p <;> simp
  | some e =>
    obtain ⟨e1, e2⟩ := (fnd_some hH).1 hf
    simp only [Option.map_some]
    by_cases k2 : e.2.1 = 2
    · have hdat : e.2.2 = ⟨#[]⟩ := by
        obtain ⟨_, _, _, _, h5⟩ := rightE_parts (hh.1 e e1)
        rcases h5 with h5 | h5
        · omega
        · exact ba_ext (List.length_eq_zero_iff.1 (by rw [← Lib.size_eq]; exact h5))
      unfold st15
      simp only [if_pos k2]
      cases hhid : hid15 high p with
      | true =>
        have hlaid : laid15 low high e = e := by
          unfold laid15
          rw [e2, hhid, if_neg (by simp)]
        simp only [if_true, hlaid]
        cases hl9 : fnd low p with
        | none => rfl
        | some d =>
          obtain ⟨d1, d2⟩ := (fnd_some hA).1 hl9
          have hk : kept15 high d = false := by
            unfold kept15
            rw [hany d d2, hhid]
            simp
          simp only [hk, Bool.false_eq_true, if_false]
      | false =>
        simp only [Bool.false_eq_true, if_false]
        cases hl9 : fnd low p with
        | none =>
          have hlaid : laid15 low high e = e := by
            unfold laid15
            rw [e2, hl9, if_neg (by simp)]
          simp only [hlaid]
        | some d =>
          obtain ⟨d1, d2⟩ := (fnd_some hA).1 hl9
          have hkd := kind_of (hl.1 d d1)
          have hk : kept15 high d = (d.2.1 == 2 || d.2.1 == 4) := by
            unfold kept15
            rw [hany d d2, hhid, d2, hf]
            simp [k2]
          simp only [hk]
          by_cases kd : d.2.1 = 1 ∨ d.2.1 = 3
          · have : (d.2.1 == 2 || d.2.1 == 4) = false := by
              rcases kd with kd | kd <;> rw [kd] <;> rfl
            simp only [this, Bool.false_eq_true, if_false, if_pos kd]
            congr 1
            unfold laid15 oE
            rw [if_pos ⟨k2, by rw [e2, hl9]; rfl, by rw [e2]; exact hhid⟩, hdat, path_eq e2]
          · have : (d.2.1 == 2 || d.2.1 == 4) = true := by
              have : d.2.1 = 2 ∨ d.2.1 = 4 := by omega
              rcases this with kd | kd <;> rw [kd] <;> rfl
            simp only [this, if_true, if_neg kd]
    · have hlaid : laid15 low high e = e := by
        unfold laid15
        rw [if_neg (fun h => k2 h.1)]
      unfold st15
      simp only [if_neg k2, hlaid]
      cases hl9 : fnd low p with
      | none => rfl
      | some d =>
        obtain ⟨d1, d2⟩ := (fnd_some hA).1 hl9
        have hk : kept15 high d = false := by
          unfold kept15
          rw [hany d d2, hf]
          simp [k2]
        simp only [hk, Bool.false_eq_true, if_false]
end Go.Proofs.YtlnjbadbpddlmaaGreatDoor

namespace Go.Proofs.YtlnjbadbpddlmaaGreatDoor
open Go.RowKit

theorem len_sub15 {t b : List Ent} (hb : Asc b) (ht : Asc t) (h : ∀ e ∈ b, ∃ x ∈ t, pl x = pl e) : b.length ≤ t.length := by
  have nb : (b.map pl).Nodup := List.pairwise_map.2 (hb.imp fun h => lt8_ne h)
  have nt : (t.map pl).Nodup := List.pairwise_map.2 (ht.imp fun h => lt8_ne h)
  have hp : (b.map pl).Perm ((t.map pl).filter fun x => decide (x ∈ b.map pl)) := by
    refine (List.perm_ext_iff_of_nodup nb (nt.filter _)).2 fun x => ?_
    rw [List.mem_filter, decide_eq_true_iff]
    refine ⟨fun hx => ⟨?_, hx⟩, fun hx => hx.2⟩
    obtain ⟨e, he, rfl⟩ := List.mem_map.1 hx
    obtain ⟨y, hy, hye⟩ := h e he
    exact List.mem_map.2 ⟨y, hy, hye⟩
  have h1 := hp.length_eq
  have h2 := List.length_filter_le (fun x => decide (x ∈ b.map pl)) (t.map pl)
  rw [List.length_map] at h1 h2
  omega
/-- A layer merged with itself: no more entries. -/
theorem self_len {l : List Ent} (h : RL l) : (mrg l l).length ≤ l.length := by
  have hA := mrg_asc l (l := l) h.2.1
  refine len_sub15 hA h.2.1 fun e he => ?_
  have h1 := (fnd_some hA).2 ⟨he, rfl⟩
  rw [fnd_mrg' h.2.1 h.2.1] at h1
  cases hf : fnd l (pl e) with
  | some x =>
    obtain ⟨h2, h3⟩ := (fnd_some h.2.1).1 hf
    exact ⟨x, h2, h3⟩
  | none =>
    rw [hf] at h1
    simp [st15] at h1
/-- MergeSame, the first: what is shown. -/
theorem same15 {l : List Ent} (h : RightL l) : twV l l false = (0, mrg l l) ∧ RightL (mrg l l) ∧ fsV [mrg l l] = fsV [l] := by
  have hl := self_len h.2
  have h1 : two15 l l false = mrg l l := if_neg (by simp)
  have hr : RightL (mrg l l) := ⟨by have := h.1; omega, by rw [← h1]; exact rl_two h.2 h.2 false⟩
  refine ⟨?_, hr, ?_⟩
  · rw [tw_ok h h (by rw [h1]; exact hr.1), h1]
  · have e1 : LkOK [mrg l l] := ⟨by simp, fun x hx => by rw [List.mem_singleton.1 hx]; exact hr⟩
    have e2 : LkOK [l] := ⟨by simp, fun x hx => by rw [List.mem_singleton.1 hx]; exact h⟩
    unfold fsV
    rw [if_pos e1, if_pos e2]
    exact mrg_self h.2
/-- .. the second: at the bottom. -/
theorem bottom15 {l high : List Ent} (h : RightL l) (h2 : RightL high) (hn : l.length + high.length ≤ 64) : twV l high true = (0, two15 l high true) ∧ RightL (two15 l high true) ∧ TreeL (two15 l high true) ∧ bot15 (two15 l high true) = two15 l high true ∧ fsV [l, high] = two15 l high true := by
  have hl := two_len l high true
  have hr : RightL (two15 l high true) := ⟨by omega, rl_two h.2 h2.2 true⟩
  have e1 : two15 l high true = bot15 (mrg l high) := if_pos rfl
  have hm : RL (mrg l high) := rl_mrg h.2 _ high rfl h2.2
  have ht : TR (two15 l high true) := by rw [e1]; exact tr_bot hm
  refine ⟨tw_ok h h2 hr.1, hr, ⟨by have := hr.1; omega, ht⟩, bot_tree ht, ?_⟩
  have hok : LkOK [l, high] := ⟨by simp, fun x hx => by
    rcases List.mem_cons.1 hx with rfl | hx
    · exact h
    · rw [List.mem_singleton.1 hx]; exact h2⟩
  unfold fsV
  rw [if_pos hok]
  have h9 := stk_two15 (a := []) (c := []) (by simp) h.2 h2.2 true (fun _ => rfl)
  simp only [List.nil_append, List.append_nil] at h9
  rw [h9]
  exact over_nil ht
/-- MergeThree: whichever two are first. -/
theorem three15 {a b c : List Ent} (ha : RightL a) (hb : RightL b) (hc : RightL c) (hn : a.length + b.length + c.length ≤ 64) (bot : Bool) :
    twV a b bot = (0, two15 a b bot) ∧ RightL (two15 a b bot) ∧ twV b c false = (0, two15 b c false) ∧ RightL (two15 b c false) ∧ twV (two15 a b bot) c bot = (0, two15 (two15 a b bot) c bot) ∧ twV a (two15 b c false) bot = (0, two15 (two15 a b bot) c bot) := by
  have l1 := two_len a b bot
  have l2 := two_len b c false
  have l3 := two_len (two15 a b bot) c bot
  have l4 := two_len a (two15 b c false) bot
  have r1 : RightL (two15 a b bot) := ⟨by omega, rl_two ha.2 hb.2 bot⟩
  have r2 : RightL (two15 b c false) := ⟨by omega, rl_two hb.2 hc.2 false⟩
  have he : two15 a (two15 b c false) bot = two15 (two15 a b bot) c bot := by
    cases bot with
    | true => exact (bot_assoc ha.2 hb.2 hc.2).symm
    | false =>
      have e : ∀ x y : List Ent, two15 x y false = mrg x y := fun x y => if_neg (by simp)
      rw [e, e, e, e]
      exact (mrg_assoc ha.2.2.1 hb.2.2.1 hc.2.2.1).symm
  refine ⟨tw_ok ha hb r1.1, r1, tw_ok hb hc r2.1, r2, tw_ok r1 hc (by omega), ?_⟩
  rw [tw_ok ha r2 (by omega), he]
/-- MergeShows: with both, with the one. -/
theorem shows15 {S T : List (List Ent)} {low high : List Ent} {b : Bool} (hn : S.length + T.length ≤ 7) (hb : b = true ↔ S = []) (h0 : (twV low high b).1 = 0) (p : List UInt8) :
    fsV (S ++ [low, high] ++ T) = fsV (S ++ [(twV low high b).2] ++ T) ∧ (lkV (S ++ [low, high] ++ T) p).1 = (lkV (S ++ [(twV low high b).2] ++ T) p).1 ∧ (lkV (S ++ [low, high] ++ T) p).2.1 = (lkV (S ++ [(twV low high b).2] ++ T) p).2.1 := by
  obtain ⟨h1, h2, h3, h4⟩ := tw_zero h0
  rw [h3]
  by_cases hall : (∀ l ∈ S, RightL l) ∧ ∀ l ∈ T, RightL l
  · have o1 : LkOK (S ++ [low, high] ++ T) := ⟨by simp; omega, fun l hl => by
      rcases List.mem_append.1 hl with hl | hl
      · rcases List.mem_append.1 hl with hl | hl
        · exact hall.1 l hl
        · rcases List.mem_cons.1 hl with rfl | hl
          · exact h1
          · rw [List.mem_singleton.1 hl]; exact h2
      · exact hall.2 l hl⟩
    have o2 : LkOK (S ++ [two15 low high b] ++ T) := ⟨by simp; omega, fun l hl => by
      rcases List.mem_append.1 hl with hl | hl
      · rcases List.mem_append.1 hl with hl | hl
        · exact hall.1 l hl
        · rw [List.mem_singleton.1 hl]; exact h4
      · exact hall.2 l hl⟩
    have hs := stk_two15 hall.1 (c := T) h1.2 h2.2 b hb.1
    refine ⟨by unfold fsV; rw [if_pos o1, if_pos o2, hs], ?_⟩
    rw [lkV_ok o1, lkV_ok o2]
    by_cases hp : isP p
    · obtain ⟨q1, q2, _⟩ := look_all o1.2 p hp
      obtain ⟨r1, r2, _⟩ := look_all o2.2 p hp
      rw [q1, q2, r1, r2, hs]
      exact ⟨rfl, rfl⟩
    · rw [atS_bad hp, atS_bad hp]
      exact ⟨rfl, rfl⟩
  · have n1 : ¬ LkOK (S ++ [low, high] ++ T) := fun h => hall ⟨fun l hl => h.2 l (by simp [hl]), fun l hl => h.2 l (by simp [hl])⟩
    have n2 : ¬ LkOK (S ++ [two15 low high b] ++ T) := fun h => hall ⟨fun l hl => h.2 l (by simp [hl]), fun l hl => h.2 l (by simp [hl])⟩
    refine ⟨by unfold fsV; rw [if_neg n1, if_neg n2], ?_⟩
    rw [lkV_bad n1, lkV_bad n2]
    exact ⟨rfl, rfl⟩
/-- What a refusal means. -/
theorem refused15 {low high : List Ent} {b : Bool} (h : (twV low high b).1 ≠ 0) : (twV low high b).1 = 16 ∨ (twV low high b).1 = 9 ∧ 64 < low.length + high.length := by
  rcases tw_cases low high b with ⟨_, e⟩ | ⟨_, _, hl, e⟩ | ⟨_, _, _, e⟩
  · rw [e]; exact .inl rfl
  · rw [e]
    refine .inr ⟨rfl, ?_⟩
    have := two_len low high b
    omega
  · rw [e] at h
    exact absurd rfl h
end Go.Proofs.YtlnjbadbpddlmaaGreatDoor

namespace Go.Proofs.YtlnjbadbpddlmaaGreatDoor
open Go.RowKit

theorem few_sm12 {S : List (List Ent)} (h : FewOK S) : S.length ≤ 100 ∧ ∀ l ∈ S, Sm l := ⟨by have := h.1; omega, fun l hl => sm_size (h.2 l hl)⟩
/-- Where something lies: the stack can be looked at, the path is one. -/
theorem lkV_zero {S : List (List Ent)} {p : List UInt8} (h : (lkV S p).1 = 0) : LkOK S ∧ isP p := by
  by_cases hS : LkOK S
  · refine ⟨hS, ?_⟩
    rw [lkV_ok hS] at h
    by_cases hp : isP p
    · exact hp
    · rw [atS_bad hp] at h; cases h
  · rw [lkV_bad hS] at h; cases h
end Go.Proofs.YtlnjbadbpddlmaaGreatDoor

namespace Go.Proofs.YtlnjbadbpddlmaaGreatDoor
open Go.RowKit

/-- A stack's headers: what its cells hold. -/
theorem stk_heads {w : World} {a : Option Addr} {cap : Nat} {S : List (List Ent)} (h : Stk w a cap S) : ∃ hs : List Value, hs.length = S.length ∧ (∀ (j : Nat) u, hs[j]? = some u → ∃ l a' cap', S[j]? = some l ∧ u = .slice a' l.length cap' ∧ Ents w a' cap' l) ∧ (∀ ad, a = some ad → ∀ (j : Nat) u, hs[j]? = some u → w.cell? (ad.add j) = some u) ∧ (a = none → S.length = 0) := by
  rcases h.2 with rfl | ⟨b, off, rfl, _, hc⟩
  · exact ⟨[], rfl, by simp, by simp, fun _ => rfl⟩
  · obtain ⟨hs, h1, h2⟩ := list_of (fun (u : Value) (i : Nat) => w.cell? ⟨b, off + i, none⟩ = some u ∧ ∃ l a' cap', S[i]? = some l ∧ u = .slice a' l.length cap' ∧ Ents w a' cap' l) S.length id fun i hi => by
      obtain ⟨a', cap', h3, h4⟩ := hc i S[i] (List.getElem?_eq_getElem hi)
      exact ⟨_, h3, S[i], a', cap', List.getElem?_eq_getElem hi, rfl, h4⟩
    refine ⟨hs, h1, fun j u hu => (h2 j u hu).2, fun ad e j u hu => ?_, fun e => by cases e⟩
    cases e
    rw [Addr.add_lit]
    exact (h2 j u hu).1
theorem own_stk {w : World} {B : Nat} {v : Value} {xs : List Value} {T : List (List Ent)} (h : w.ownsRow B 23 1 v T.length xs) (hx : ∀ (j : Nat) u, xs[j]? = some u → ∃ l a' cap', T[j]? = some l ∧ u = .slice a' l.length cap' ∧ Ents w a' cap' l) : ∃ a cap, v = .slice a T.length cap ∧ Stk w a cap T := by
  obtain ⟨hl, ⟨rfl, h0⟩ | ⟨g, cap, cur, rfl, _, hbk, hc, _, _, ht⟩⟩ := h
  · exact ⟨none, 0, by rw [h0], by omega, .inl (List.length_eq_zero_iff.1 h0)⟩
  · refine ⟨_, cap, rfl, hc, .inr ⟨g, 0, rfl, (Array.getElem?_eq_some_iff.1 hbk).1, fun j l hj => ?_⟩⟩
    have hlt : j < T.length := (List.getElem?_eq_some_iff.1 hj).1
    have h4 := congrArg (·[j]?) ht
    simp only [List.getElem?_take, Nat.mul_one, if_pos hlt, Array.getElem?_toList] at h4
    obtain ⟨u, hu⟩ : ∃ u, xs[j]? = some u := ⟨_, List.getElem?_eq_getElem (by omega)⟩
    obtain ⟨l', a', cap', h5, rfl, h6⟩ := hx j u hu
    obtain rfl : l' = l := Option.some.inj (h5.symm.trans hj)
    refine ⟨a', cap', ?_, h6⟩
    rw [Lib.cell_of_heap hbk, Nat.zero_add, h4, hu]
theorem infoEnsR : (Tryz.prog.info? 23).map (fun i => (i.zero, i.size, i.bytes)) = some (some (.slice none 0 0), 1, 24) := by kernel_rfl
/-- What a header tells. -/
def HdOf (w : World) (S : List (List Ent)) (hs : List Value) : Prop := hs.length = S.length ∧ ∀ (j : Nat) u, hs[j]? = some u → ∃ l a' cap', S[j]? = some l ∧ u = .slice a' l.length cap' ∧ Ents w a' cap' l
theorem HdOf.below {w w' : World} {S : List (List Ent)} {hs : List Value} (h : HdOf w S hs) (hb : Below w.heap.size w w') : HdOf w' S hs := ⟨h.1, fun j u hu => by
  obtain ⟨l, a', cap', h1, h2, h3⟩ := h.2 j u hu
  exact ⟨l, a', cap', h1, h2, RowN.below h3 hb⟩⟩
theorem HdOf.app {w : World} {S T : List (List Ent)} {hs ht : List Value} (h : HdOf w S hs) (h2 : HdOf w T ht) : HdOf w (S ++ T) (hs ++ ht) := by
  refine ⟨by rw [List.length_append, List.length_append, h.1, h2.1], fun j u hu => ?_⟩
  by_cases hj : j < hs.length
  · rw [List.getElem?_append_left hj] at hu
    rw [List.getElem?_append_left (by rw [← h.1]; exact hj)]
    exact h.2 j u hu
  · rw [List.getElem?_append_right (by omega)] at hu
    rw [List.getElem?_append_right (by rw [← h.1]; omega), ← h.1]
    exact h2.2 _ u hu
theorem HdOf.one {w : World} {S : List (List Ent)} {hs : List Value} (h : HdOf w S hs) : ∀ u ∈ hs, u.oneCell' = true := fun u hu => by
  obtain ⟨j, hj, rfl⟩ := List.mem_iff_getElem.1 hu
  obtain ⟨l, a', cap', _, h9, _⟩ := h.2 j _ (List.getElem?_eq_getElem hj)
  rw [h9]
  rfl
/-- A stack of a call's own, its layers in what was there in W0. -/
def OwnS (W0 w : World) (v : Value) (S : List (List Ent)) : Prop := ∃ hs, w.ownsRow W0.heap.size 23 1 v S.length hs ∧ HdOf W0 S hs
theorem ownS_new (W0 w : World) (hB : W0.heap.size ≤ w.heap.size) : OwnS W0 (w.alloc (.cells #[] 23)) (.slice (some ⟨w.heap.size, 0, none⟩) 0 0) [] :=
  ⟨[], ownsE_new w W0.heap.size w.heap.size rfl hB 23 1, rfl, by simp⟩
theorem ownS_one (W0 w : World) (hB : W0.heap.size ≤ w.heap.size) : OwnS W0 (w.alloc (.cells #[.slice none 0 0] 23)) (.slice (some ⟨w.heap.size, 0, none⟩) 1 1) [[]] := by
  refine ⟨[.slice none 0 0], ⟨rfl, .inr ⟨w.heap.size, 1, #[.slice none 0 0], rfl, hB, heap_alloc_new w _, Nat.le_refl _, by unfold maxLen; omega, rfl, rfl⟩⟩, rfl, fun j u hu => ?_⟩
  obtain ⟨rfl, rfl⟩ : j = 0 ∧ Value.slice none 0 0 = u := by
    cases j with
    | zero => exact ⟨rfl, by simpa using hu⟩
    | succ j => simp at hu
  exact ⟨[], none, 0, rfl, rfl, ents_nil _ _ _⟩
theorem stk_of_ownS {W0 w : World} {v : Value} {S : List (List Ent)} (h : OwnS W0 w v S) (hb : Below W0.heap.size W0 w) : ∃ a cap, v = .slice a S.length cap ∧ Stk w a cap S := by
  obtain ⟨hs, h1, h2⟩ := h
  exact own_stk h1 (h2.below hb).2
theorem OwnS.below {W0 w w' : World} {v : Value} {S : List (List Ent)} (h : OwnS W0 w v S) (hb : Below w.heap.size w w') : OwnS W0 w' v S := by
  obtain ⟨hs, h1, h2⟩ := h
  refine ⟨hs, ?_, h2⟩
  obtain ⟨hl, ⟨rfl, h0⟩ | ⟨g, cap, cur, rfl, hg, hbk, hc⟩⟩ := h1
  · exact ⟨hl, .inl ⟨rfl, h0⟩⟩
  · exact ⟨hl, .inr ⟨g, cap, cur, rfl, hg, (hb.block g (Array.getElem?_eq_some_iff.1 hbk).1).trans hbk, hc⟩⟩
theorem ownS_blk {W0 w : World} {v : Value} {S : List (List Ent)} (h : OwnS W0 w v S) : ∀ k, v.ownBlock = some k → W0.heap.size ≤ k := fun k hk => by
  obtain ⟨hs, ⟨_, ⟨rfl, h2⟩ | ⟨g, cap, cur, rfl, h3, h4, _⟩⟩, _⟩ := h
  · cases hk
  · obtain rfl : g = k := by simpa [Value.ownBlock] using hk
    exact h3
/-- What is appended: headers of layers that lie in W0, their cells in w. -/
structure SrcS (W0 w : World) (aS : Option Addr) (S : List (List Ent)) (hs : List Value) : Prop where
  hd : HdOf W0 S hs
  src : ∀ ad, aS = some ad → ∀ (j : Nat) u, hs[j]? = some u → w.cell? (ad.add j) = some u
  none : aS = none → S.length = 0
theorem src_old {W0 w : World} {aS : Option Addr} {c : Nat} {S : List (List Ent)} (h : Stk W0 aS c S) (hb : Below W0.heap.size W0 w) : ∃ hs, SrcS W0 w aS S hs := by
  obtain ⟨hs, e1, e2, e3, e4⟩ := stk_heads h
  refine ⟨hs, ⟨e1, e2⟩, fun ad e j u hu => ?_, e4⟩
  have h1 := e3 ad e j u hu
  exact (hb.cell (World.block_lt_of_cell? W0 _ h1)).trans h1
theorem src_one {W0 w : World} {a : Option Addr} {cap M : Nat} {l : List Ent} (h : Ents W0 a cap l) (hc : w.cell? ⟨M, 0, Option.none⟩ = some (.slice a l.length cap)) : SrcS W0 w (some ⟨M, 0, Option.none⟩) [l] [.slice a l.length cap] := by
  refine ⟨⟨rfl, fun j u hu => ?_⟩, fun ad e j u hu => ?_, fun e => by cases e⟩
  · obtain ⟨rfl, rfl⟩ : j = 0 ∧ Value.slice a l.length cap = u := by
      cases j with
      | zero => exact ⟨rfl, by simpa using hu⟩
      | succ j => simp at hu
    exact ⟨l, a, cap, rfl, rfl, h⟩
  · obtain ⟨rfl, rfl⟩ : j = 0 ∧ Value.slice a l.length cap = u := by
      cases j with
      | zero => exact ⟨rfl, by simpa using hu⟩
      | succ j => simp at hu
    cases e
    rw [Addr.add_lit]
    exact hc
/-- Layers at the end of a stack that a call made itself. -/
theorem wl_catS {w : World} {ops : Array Oper} {rest : List Oper} {o : Oper} {a : Act} {Q : Exit → Act → World → Prop} (hgd : o.guard = none) (s x : Operand)
    (ho : o.op = .call { callee := .builtin .append, args := #[s, x], argTypes := #[22, 22] }) (W0 : World) (v : Value) (T S : List (List Ent)) (hs : a.eval s = v) (hown : OwnS W0 w v T) (hB : Below W0.heap.size W0 w)
    (aS : Option Addr) (c : Nat) (hx : a.eval x = .slice aS S.length c) (hdS : List Value) (hS : SrcS W0 w aS S hdS) (hl : T.length + S.length ≤ 1000)
    (h : ∀ v' w', OwnS W0 w' v' (T ++ S) → Below W0.heap.size W0 w' → w.grownBy w' v.ownBlock → wpList Tryz.prog ops Q rest (a.put o.dst v') w') : wpList Tryz.prog ops Q (o :: rest) a w := by
  obtain ⟨iE, hi1, hi2, hi3, hi4⟩ := info_parts infoEnsR
  have hbl := ownS_blk hown
  obtain ⟨hsT, o1, o2⟩ := hown
  refine wl_append_any hgd s x 22 ho W0.heap.size 23 iE _ 1 24 Tryz.underlying22 hi1 hi2 hi3 hi4 rfl (by decide) v T.length _ hs o1 aS S.length c hdS hx (by rw [hS.hd.1]; omega) hS.src hS.none hS.hd.one (by unfold maxLen; omega) (by omega) hB.size ?_
  intro v' w' h1 h2
  exact h v' w' ⟨hsT ++ hdS, by rw [List.length_append]; exact h1, o2.app hS.hd⟩ (hB.grown h2 hB.size hbl) h2
end Go.Proofs.YtlnjbadbpddlmaaGreatDoor

namespace Go.Proofs.YtlnjbadbpddlmaaGreatDoor
open Go.RowKit

theorem run_append13 {P : Program} (w : World) (base : Nat) (t ty e : TypeId) (i : TypeInfo) (z : Value) (size bytes : Nat) (ht : P.underlying t = some (.slice e)) (hi : P.info? e = some i) (hz : i.zero = some z)
    (hsize : i.size = size) (hby : i.bytes = bytes) (hzs : z.cells.size = size) (hsz : 0 < size) (v : Value) (n : Nat) (xs : List Value) (hown : w.ownsRow base e size v n xs)
    (aS : Option Addr) (m c : Nat) (news : List Value) (hl : news.length = m * size) (hsrc : ∀ ad, aS = some ad → ∀ j u, news[j]? = some u → w.cell? (ad.add j) = some u) (hnone : aS = none → m = 0 ∧ c = 0) (h1 : ∀ u ∈ news, u.oneCell' = true)
    (h63 : n + m ≤ maxLen) (hbytes : (n + m) * bytes ≤ 140737488355328) (hbase : base ≤ w.heap.size) :
    ∃ v' w', (Builtin.append_ #[t, t] ty #[v, .slice aS m c]).run P w = .ok v' w' ∧ w'.ownsRow base e size v' (n + m) (xs ++ news) ∧ w.grownBy w' v.ownBlock ∧ (∀ g, v'.ownBlock = some g → v.ownBlock = some g ∨ w.heap.size ≤ g) := by
  cases aS with
  | none =>
    obtain ⟨rfl, rfl⟩ := hnone rfl
    obtain rfl : news = [] := List.eq_nil_of_length_eq_zero (by simpa using hl)
    exact ⟨v, w, run_append_owned_none (P := P) w base t ty e i size ht hi v n xs hown, by simpa using hown, ⟨rfl, rfl, rfl, Nat.le_refl _, fun _ _ _ => rfl⟩, fun g hg => .inl hg⟩
  | some ad =>
    obtain ⟨v', w', hr, h2, h3, _⟩ := run_append_own (P := P) w base t ty e i z size bytes ht hi hz hsize hby hzs hsz v n xs hown ad m c news hl (hsrc ad rfl) h1 h63 hbytes hbase
    refine ⟨v', w', hr, h2, h3, ?_⟩
    rcases hown.2 with ⟨rfl, rfl⟩ | ⟨g, cap, cur, rfl, hbg, hg, hnc, hcm, hcs, htake⟩
    · have hx : xs = [] := List.eq_nil_of_length_eq_zero (by simpa using hown.1)
      subst hx
      obtain ⟨v2, w2, hr2, h4, _⟩ := run_append_own (P := P) w w.heap.size t ty e i z size bytes ht hi hz hsize hby hzs hsz _ 0 [] (World.ownsRow_nil w w.heap.size e size) ad m c news hl (hsrc ad rfl) h1 h63 hbytes (Nat.le_refl _)
      rw [hr] at hr2
      cases hr2
      exact fun k hk => .inr (h4.lt k hk).1
    · by_cases hroom : n + m ≤ cap
      · obtain ⟨w2, hr2, _⟩ := run_append_fits (P := P) w base t ty e i size ht hi hsize g n cap xs hown ad m c news hl (hsrc ad rfl) h1 hroom
        rw [hr] at hr2
        cases hr2
        exact fun k hk => .inl hk
      · have holds : ∀ j u, xs[j]? = some u → w.cell? ((⟨g, 0, none⟩ : Addr).add j) = some u := hown.cells (g := g) rfl
        subst hsize
        have hsmall : n + m ≤ 9223372036854775807 := by simp only [maxLen] at h63; omega
        have hr2 := run_append_grow (P := P) w t ty e i z ht hi hz ⟨g, 0, none⟩ n cap xs hown.1 holds ad m c news hl (hsrc ad rfl) (by omega) (by omega) (growslice_fits (by omega) (by rw [hby]; exact hbytes))
        rw [hr] at hr2
        cases hr2
        intro k hk
        obtain rfl : w.heap.size = k := by simpa [Value.ownBlock] using hk
        exact .inr (Nat.le_refl _)
theorem wpi_append13 {F : Fence} {n9 : Nat} {P : Program} {w : World} {ops : Array Oper} {rest : List Oper} {o : Oper} {a : Act} {Q : Exit → Act → World → Prop} (hg : o.guard = none) (s x : Operand) (t : TypeId)
    (hop : o.op = .call { callee := .builtin .append, args := #[s, x], argTypes := #[t, t] })
    (base : Nat) (e : TypeId) (i : TypeInfo) (z : Value) (size bytes : Nat) (ht : P.underlying t = some (.slice e)) (hi : P.info? e = some i) (hz : i.zero = some z)
    (hsize : i.size = size) (hby : i.bytes = bytes) (hzs : z.cells.size = size) (hsz : 0 < size) (v : Value) (n : Nat) (xs : List Value) (hs : a.eval s = v) (hown : w.ownsRow base e size v n xs)
    (aS : Option Addr) (m c : Nat) (news : List Value) (hx : a.eval x = .slice aS m c) (hl : news.length = m * size) (hsrc : ∀ ad, aS = some ad → ∀ j u, news[j]? = some u → w.cell? (ad.add j) = some u) (hnone : aS = none → m = 0 ∧ c = 0) (h1 : ∀ u ∈ news, u.oneCell' = true)
    (h63 : n + m ≤ maxLen) (hbytes : (n + m) * bytes ≤ 140737488355328) (hbase : base ≤ w.heap.size)
    (hK : ∀ v' w', w'.ownsRow base e size v' (n + m) (xs ++ news) → w.grownBy w' v.ownBlock → (∀ g, v'.ownBlock = some g → v.ownBlock = some g ∨ w.heap.size ≤ g) → wpListIn F n9 P ops Q rest (a.put o.dst v') w') : wpListIn F n9 P ops Q (o :: rest) a w := by
  refine wpListIn_plain hg fun K hK' => ?_
  obtain ⟨v', w', hrun, r1, r2, r3⟩ := run_append13 (P := P) w base t o.type e i z size bytes ht hi hz hsize hby hzs hsz v n xs hown aS m c news hl hsrc hnone h1 h63 hbytes hbase
  unfold Oper.wpIn
  refine ⟨?_, ?_⟩
  · simp [Oper.about, hop, resolve, Target.leads, Sem.run_pure]
  · rw [Oper.semAt_plain F _ _ (by rw [hop]; intro c hc'; cases hc')]
    simp [execOp, hop, resolve, invoke, builtin, hs, hx, hrun, Result.andThen]
    exact hK' _ _ (hK v' w' r1 r2 r3)
/-- A box that holds a slice of the call's own, and its block: what is turned by an append and a store. -/
def ownB (B : Nat) (v : Value) : Nat → Prop := fun k => k = B ∨ v.ownBlock = some k
theorem kept_append {W V w9 : World} {B : Nat} {v v' : Value} (hb : Below W.heap.size W V) (hg : V.grownBy w9 v.ownBlock) : ∀ k < W.heap.size, ¬ ownB B v k → (w9.setCell ⟨B, 0, none⟩ v').heap[k]? = W.heap[k]? := fun k hk hn => by
  rw [Below.heap_setCell w9 ⟨B, 0, none⟩ v' k (fun e => hn (.inl e)), hg.block k (by have := hb.size; omega) (fun e => hn (.inr e.symm)), hb.block k hk]
theorem grow_append {W V : World} {B : Nat} {v v' : Value} (hb : Below W.heap.size W V) (h : ∀ g, v'.ownBlock = some g → v.ownBlock = some g ∨ V.heap.size ≤ g) : ∀ k, ownB B v' k → ownB B v k ∨ W.heap.size ≤ k := fun k hk => by
  rcases hk with rfl | hk
  · exact .inl (.inl rfl)
  · rcases h k hk with h1 | h1
    · exact .inl (.inr h1)
    · exact .inr (Nat.le_trans hb.size h1)
end Go.Proofs.YtlnjbadbpddlmaaGreatDoor

namespace Go.Proofs.YtlnjbadbpddlmaaGreatDoor
open Go.RowKit

theorem run_append15 {P : Program} (w : World) (base : Nat) (t ty e : TypeId) (i : TypeInfo) (z : Value) (size bytes : Nat) (ht : P.underlying t = some (.slice e)) (hi : P.info? e = some i) (hz : i.zero = some z)
    (hsize : i.size = size) (hby : i.bytes = bytes) (hzs : z.cells.size = size) (hsz : 0 < size) (v : Value) (n : Nat) (xs : List Value) (hown : w.ownsRow base e size v n xs)
    (aS : Option Addr) (m c : Nat) (news : List Value) (hl : news.length = m * size) (hsrc : ∀ ad, aS = some ad → ∀ j u, news[j]? = some u → w.cell? (ad.add j) = some u) (hnone : aS = none → m = 0) (h1 : ∀ u ∈ news, u.oneCell' = true)
    (h63 : n + m ≤ maxLen) (hbytes : (n + m) * bytes ≤ 140737488355328) (hbase : base ≤ w.heap.size) :
    ∃ v' w', (Builtin.append_ #[t, t] ty #[v, .slice aS m c]).run P w = .ok v' w' ∧ w'.ownsRow base e size v' (n + m) (xs ++ news) ∧ w.grownBy w' v.ownBlock ∧ (∀ g, v'.ownBlock = some g → v.ownBlock = some g ∨ w.heap.size ≤ g) := by
  cases aS with
  | some ad => exact run_append13 (P := P) w base t ty e i z size bytes ht hi hz hsize hby hzs hsz v n xs hown (some ad) m c news hl hsrc (fun h => by cases h) h1 h63 hbytes hbase
  | none =>
    obtain rfl := hnone rfl
    obtain rfl : news = [] := List.eq_nil_of_length_eq_zero (by simpa using hl)
    refine ⟨v, w, ?_, by simpa using hown, grownBy_self _ _, fun g hg => .inl hg⟩
    subst hsize
    rcases hown.2 with ⟨rfl, rfl⟩ | ⟨g, cap, cur, rfl, _, _, hnc, _⟩
    · simp [Builtin.append_, run_underlying ht, sizeOf, typeInfo, hi, Builtin.lenOf, Builtin.firstCells]
    · have hr := run_append_room_src (P := P) w t t ty e i ht hi g 0 n cap (.slice none 0 c) 0 [] (Src.ofNil w ht c) (by omega) (fun j hj => by simp at hj) (fun j hj => by simp at hj)
      simpa [World.setCells] using hr
theorem wl_append15 {P : Program} {w : World} {ops : Array Oper} {rest : List Oper} {o : Oper} {a : Act} {Q : Exit → Act → World → Prop} (hgd : o.guard = none) (s x : Operand) (t : TypeId)
    (ho : o.op = .call { callee := .builtin .append, args := #[s, x], argTypes := #[t, t] })
    (base : Nat) (e : TypeId) (i : TypeInfo) (z : Value) (size bytes : Nat) (ht : P.underlying t = some (.slice e)) (hi : P.info? e = some i) (hz : i.zero = some z)
    (hsize : i.size = size) (hby : i.bytes = bytes) (hzs : z.cells.size = size) (hsz : 0 < size) (v : Value) (n : Nat) (xs : List Value) (hs : a.eval s = v) (hown : w.ownsRow base e size v n xs)
    (aS : Option Addr) (m c : Nat) (news : List Value) (hx : a.eval x = .slice aS m c) (hl : news.length = m * size) (hsrc : ∀ ad, aS = some ad → ∀ j u, news[j]? = some u → w.cell? (ad.add j) = some u) (hnone : aS = none → m = 0) (h1 : ∀ u ∈ news, u.oneCell' = true)
    (h63 : n + m ≤ maxLen) (hbytes : (n + m) * bytes ≤ 140737488355328) (hbase : base ≤ w.heap.size)
    (h : ∀ v' w', w'.ownsRow base e size v' (n + m) (xs ++ news) → w.grownBy w' v.ownBlock → (∀ g, v'.ownBlock = some g → v.ownBlock = some g ∨ w.heap.size ≤ g) → wpList P ops Q rest (a.put o.dst v') w') : wpList P ops Q (o :: rest) a w := by
  refine wpList_plain hgd fun K hK => ?_
  obtain ⟨v', w', hr, h2, h3, h4⟩ := run_append15 (P := P) w base t o.type e i z size bytes ht hi hz hsize hby hzs hsz v n xs hown aS m c news hl hsrc hnone h1 h63 hbytes hbase
  unfold Oper.wp execOp
  simp only [ho, resolve, invoke, builtin, Sem.run_bind, Sem.run_pure, Result.andThen_ok, List.map_toArray, List.map_cons, List.map_nil, hs, hx, hr]
  exact hK _ _ (h v' w' h2 h3 h4)
theorem ownS_lt {W0 w : World} {v : Value} {S : List (List Ent)} (h : OwnS W0 w v S) : ∀ k, v.ownBlock = some k → k < w.heap.size := fun k hk => by
  obtain ⟨hs, ⟨_, ⟨rfl, h2⟩ | ⟨g, cap, cur, rfl, h3, h4, _⟩⟩, _⟩ := h
  · cases hk
  · obtain rfl : g = k := by simpa [Value.ownBlock] using hk
    exact (Array.getElem?_eq_some_iff.1 h4).1
theorem ownS_other {W0 w w' : World} {v : Value} {S : List (List Ent)} {row : Option Nat} (h : OwnS W0 w v S) (hg : w.grownBy w' row) (hr : ∀ g, v.ownBlock = some g → row ≠ some g) : OwnS W0 w' v S := by
  obtain ⟨hs, h1, h2⟩ := h
  refine ⟨hs, ?_, h2⟩
  obtain ⟨hl, ⟨rfl, h0⟩ | ⟨g, cap, cur, rfl, hgB, hbk, hc⟩⟩ := h1
  · exact ⟨hl, .inl ⟨rfl, h0⟩⟩
  · exact ⟨hl, .inr ⟨g, cap, cur, rfl, hgB, (hg.block g (Array.getElem?_eq_some_iff.1 hbk).1 (fun e => hr g rfl e.symm)).trans hbk, hc⟩⟩
/-- Two stacks of the call's own, each in a block of its own. -/
def Own2 (W0 w : World) (v1 : Value) (S1 : List (List Ent)) (v2 : Value) (S2 : List (List Ent)) : Prop := OwnS W0 w v1 S1 ∧ OwnS W0 w v2 S2 ∧ ∀ g, v1.ownBlock = some g → v2.ownBlock ≠ some g
theorem Own2.symm {W0 w : World} {v1 v2 : Value} {S1 S2 : List (List Ent)} (h : Own2 W0 w v1 S1 v2 S2) : Own2 W0 w v2 S2 v1 S1 := ⟨h.2.1, h.1, fun g h1 h2 => h.2.2 g h2 h1⟩
theorem Own2.below {W0 w w' : World} {v1 v2 : Value} {S1 S2 : List (List Ent)} (h : Own2 W0 w v1 S1 v2 S2) (hb : Below w.heap.size w w') : Own2 W0 w' v1 S1 v2 S2 := ⟨h.1.below hb, h.2.1.below hb, h.2.2⟩
theorem own2_new {W0 w : World} {v1 : Value} {S1 : List (List Ent)} (h : OwnS W0 w v1 S1) (hB : W0.heap.size ≤ w.heap.size) : Own2 W0 (w.alloc (.cells #[] 23)) v1 S1 (.slice (some ⟨w.heap.size, 0, none⟩) 0 0) [] :=
  ⟨h.below ((Below.refl _ _).alloc (Nat.le_refl _) _), ownS_new _ _ hB, fun g hg e => by
    have := ownS_lt h g hg
    obtain rfl : w.heap.size = g := by simpa [Value.ownBlock] using e
    omega⟩
theorem src_two {W0 w : World} {a b : Option Addr} {ca cb M : Nat} {l m : List Ent} (h : Ents W0 a ca l) (h2 : Ents W0 b cb m) (hc : w.cell? ⟨M, 0, Option.none⟩ = some (.slice a l.length ca)) (hd : w.cell? ⟨M, 1, Option.none⟩ = some (.slice b m.length cb)) : SrcS W0 w (some ⟨M, 0, Option.none⟩) [l, m] [.slice a l.length ca, .slice b m.length cb] := by
  refine ⟨⟨rfl, fun j u hu => ?_⟩, fun ad e j u hu => ?_, fun e => by cases e⟩
  · match j, hu with
    | 0, hu => obtain rfl : Value.slice a l.length ca = u := by simpa using hu
               exact ⟨l, a, ca, rfl, rfl, h⟩
    | 1, hu => obtain rfl : Value.slice b m.length cb = u := by simpa using hu
               exact ⟨m, b, cb, rfl, rfl, h2⟩
    | j + 2, hu => simp at hu
  · cases e
    match j, hu with
    | 0, hu => obtain rfl : Value.slice a l.length ca = u := by simpa using hu
               rw [Addr.add_lit]
               exact hc
    | 1, hu => obtain rfl : Value.slice b m.length cb = u := by simpa using hu
               rw [Addr.add_lit]
               exact hd
    | j + 2, hu => simp at hu
/-- Layers at the end of the first of the two. -/
theorem wl_cat1 {w : World} {ops : Array Oper} {rest : List Oper} {o : Oper} {a : Act} {Q : Exit → Act → World → Prop} (hgd : o.guard = none) (s x : Operand)
    (ho : o.op = .call { callee := .builtin .append, args := #[s, x], argTypes := #[22, 22] }) (W0 : World) (v v2 : Value) (T T2 S : List (List Ent)) (hs : a.eval s = v) (hown : Own2 W0 w v T v2 T2) (hB : Below W0.heap.size W0 w)
    (aS : Option Addr) (c : Nat) (hx : a.eval x = .slice aS S.length c) (hdS : List Value) (hS : SrcS W0 w aS S hdS) (hl : T.length + S.length ≤ 1000)
    (h : ∀ v' w', Own2 W0 w' v' (T ++ S) v2 T2 → Below W0.heap.size W0 w' → wpList Tryz.prog ops Q rest (a.put o.dst v') w') : wpList Tryz.prog ops Q (o :: rest) a w := by
  obtain ⟨iE, hi1, hi2, hi3, hi4⟩ := info_parts infoEnsR
  obtain ⟨ho1, ho2, hd⟩ := hown
  have hbl := ownS_blk ho1
  have hl2 := ownS_lt ho2
  obtain ⟨hsT, o1, o2⟩ := ho1
  refine wl_append15 hgd s x 22 ho W0.heap.size 23 iE _ 1 24 Tryz.underlying22 hi1 hi2 hi3 hi4 rfl (by decide) v T.length _ hs o1 aS S.length c hdS hx (by rw [hS.hd.1]; omega) hS.src hS.none hS.hd.one (by unfold maxLen; omega) (by omega) hB.size ?_
  intro v' w' h1 h2 h3
  refine h v' w' ⟨⟨hsT ++ hdS, by rw [List.length_append]; exact h1, o2.app hS.hd⟩, ownS_other ho2 h2 (fun g hg e => hd g e hg), fun g hg => ?_⟩ (hB.grown h2 hB.size hbl)
  rcases h3 g hg with h4 | h4
  · exact hd g h4
  · exact fun e => by
      have := hl2 g e
      omega
/-- Of the second. -/
theorem wl_cat2 {w : World} {ops : Array Oper} {rest : List Oper} {o : Oper} {a : Act} {Q : Exit → Act → World → Prop} (hgd : o.guard = none) (s x : Operand)
    (ho : o.op = .call { callee := .builtin .append, args := #[s, x], argTypes := #[22, 22] }) (W0 : World) (v v2 : Value) (T T2 S : List (List Ent)) (hs : a.eval s = v2) (hown : Own2 W0 w v T v2 T2) (hB : Below W0.heap.size W0 w)
    (aS : Option Addr) (c : Nat) (hx : a.eval x = .slice aS S.length c) (hdS : List Value) (hS : SrcS W0 w aS S hdS) (hl : T2.length + S.length ≤ 1000)
    (h : ∀ v' w', Own2 W0 w' v T v' (T2 ++ S) → Below W0.heap.size W0 w' → wpList Tryz.prog ops Q rest (a.put o.dst v') w') : wpList Tryz.prog ops Q (o :: rest) a w :=
  wl_cat1 hgd s x ho W0 v2 v T2 T S hs hown.symm hB aS c hx hdS hS hl fun v' w' h1 h2 => h v' w' h1.symm h2
end Go.Proofs.YtlnjbadbpddlmaaGreatDoor
