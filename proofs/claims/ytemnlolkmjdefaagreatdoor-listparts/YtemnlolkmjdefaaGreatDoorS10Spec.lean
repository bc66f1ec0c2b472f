/-
  What package fold's functions, and package layer's Right, answer, as one statement about all of them (Fold10): the laws of layer 10 are walked over it. Conditions: lists in memory, of at most 1000 entries, texts of at most 100000 bytes.
-/
import Derived.Test.YtemnlolkmjdefaaGreatDoorEnv
import Derived.Test.YtemnlolkmjdefaaGreatDoorS10Few
import Derived.Test.YtemnlolkmjdefaaGreatDoorPc
namespace Go.Proofs.YtemnlolkmjdefaaGreatDoor
open Go.RowKit

def ovV (t l : List Ent) : List Ent := if TreeL t ∧ RightL l ∧ (over t l).length ≤ 1024 then over t l else []
def stV (S : List (List Ent)) : List Ent := if S.length ≤ 9 ∧ ∀ l ∈ S, RightL l then stk S else []
/-- What was there when the call began is as it was. -/
structure St10 (W w : World) : Prop where
  below : Below W.heap.size W w
  env : Env w
theorem st10_self {w : World} (h : Env w) : St10 w w := ⟨Below.refl _ _, h⟩
theorem St10.next {W w w' : World} (h : St10 W w) (hb : Below w.heap.size w w') : St10 W w' := ⟨h.below.trans (hb.mono h.below.size), h.env.below hb⟩
theorem St10.old {W w w' : World} (h : St10 W w) (hb : OldC w w') : St10 W w' := h.next hb
theorem sm_tr {t : List Ent} (h : TR t) (hl : t.length ≤ 1000) : Sm t := ⟨hl, fun e he => by
  obtain ⟨h1, _, _, h4, _⟩ := rightE_parts (h.1.1 e he)
  have h54 := isP_len (isP_of_dp h1)
  rw [← Lib.size_eq] at h54
  omega⟩
theorem stV_tree (S : List (List Ent)) : TR (stV S) ∧ (stV S).length ≤ 576 := by
  unfold stV
  split
  · rename_i h
    have h1 := stk_len h.2
    exact ⟨tr_stk h.2, by have := h.1; omega⟩
  · exact ⟨tr_nil, by simp⟩
theorem stV_sm (S : List (List Ent)) : Sm (stV S) := sm_tr (stV_tree S).1 (by have := (stV_tree S).2; omega)
theorem ovV_tree {t l : List Ent} (ht : TR t) : TR (ovV t l) := by
  unfold ovV
  split
  · rename_i h
    exact tr_over ht h.2.1.2
  · exact tr_nil
end Go.Proofs.YtemnlolkmjdefaaGreatDoor
