/-
  What package edit's Do and On answer of a stack, of a tree, one statement each (Do14, On14); what fold.Tree, layer.Right and fold.Stack answer (Tree14, Right14, Stack14): the laws of layer 14 are walked over them. Conditions: a stack in memory, of at most 100 layers, each of at most 1000 entries whose texts have at most 100000 bytes; a tree of at most 900 entries; an op of a size that is looked at; errorType holds error's type.
-/
import Derived.Test.YtjliagcalbdnhaaGreatDoorPb
import Derived.Test.YtjliagcalbdnhaaGreatDoorS11Spec
import Derived.Test.YtjliagcalbdnhaaGreatDoorPc
import Derived.Test.YtjliagcalbdnhaaGreatDoorOpAt
namespace Go.Proofs.YtjliagcalbdnhaaGreatDoor
open Go.RowKit

def Do14 : Prop := ∀ S a cap u a2 cap2 o w, EtLaid w → Stk w a cap S → Ents w a2 cap2 u → S.length ≤ 100 → (∀ l ∈ S, Sm l) → Sm u → FewO o → opOK o → Calls Tryz.prog 13 #[.slice a S.length cap, .slice a2 u.length cap2, opV o] w (Ans11 (edV S u o) w)
def On14 : Prop := ∀ t a cap o w, EtLaid w → Ents w a cap t → TreeL t → t.length ≤ 900 → FewO o → opOK o → Calls Tryz.prog 15 #[.slice a t.length cap, opV o] w (Ans11 (onV t o) w)
def Tree14 : Prop := ∀ l a cap w, EtLaid w → Ents w a cap l → Sm l → Calls Tryz.prog 18 #[.slice a l.length cap] w fun e w' => e = .returned (.bool (decide (TreeL l))) ∧ Below w.heap.size w w'
def Right14 : Prop := ∀ l a cap w, EtLaid w → Ents w a cap l → Sm l → Calls Tryz.prog 9 #[.slice a l.length cap] w fun e w' => e = .returned (.bool (decide (RightL l))) ∧ Below w.heap.size w w'
/-- Stack. -/
def skV (S : List (List Ent)) : List Ent := if OK14 S then stk S else []
def Stack14 : Prop := ∀ S a cap w, EtLaid w → Stk w a cap S → S.length ≤ 100 → (∀ l ∈ S, Sm l) → Calls Tryz.prog 10 #[.slice a S.length cap] w fun e w' => ∃ a' cap', e = .returned (.slice a' (skV S).length cap') ∧ Ents w' a' cap' (skV S) ∧ Below w.heap.size w w'
theorem sm_right14 {l : List Ent} (h : RightL l) : Sm l := ⟨by have := h.1; omega, fun e he => by
  obtain ⟨h1, _, _, h4, _⟩ := rightE_parts (h.2.1 e he)
  have h54 := isP_len (isP_of_dp h1)
  rw [← Lib.size_eq] at h54
  omega⟩
theorem stk_nil14 (w : World) (a : Option Addr) (cap : Nat) : Stk w a cap [] := ⟨by simp, .inl rfl⟩
/-- A stack that can be looked at, with an upper layer: what it shows is a tree of at most 576 entries. -/
theorem ok_stk {S : List (List Ent)} {u : List Ent} (h : OK14 (S ++ [u])) : skV (S ++ [u]) = stk (S ++ [u]) ∧ TreeL (stk (S ++ [u])) ∧ (stk (S ++ [u])).length ≤ 576 := by
  obtain ⟨h1, h2, h3, h4⟩ := ok_low h
  refine ⟨if_pos h, ?_, by rw [h3]; exact h4⟩
  exact ⟨by rw [h3]; omega, tr_stk h.2⟩
theorem ok_sm {S : List (List Ent)} (h : OK14 S) : S.length ≤ 100 ∧ ∀ l ∈ S, Sm l := ⟨by have := h.1; omega, fun l hl => sm_right14 (h.2 l hl)⟩
end Go.Proofs.YtjliagcalbdnhaaGreatDoor
