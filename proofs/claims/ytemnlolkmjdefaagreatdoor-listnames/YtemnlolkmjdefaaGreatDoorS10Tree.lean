/-
  The contract of the document's own Tree of a list (package shaleref10). Condition: the list lies in memory, has at most 2000 entries, their paths at most 100000 bytes.
-/
import Derived.Test.YtemnlolkmjdefaaGreatDoorS8Ref
import Derived.Test.YtemnlolkmjdefaaGreatDoorS9RefR
import Derived.Test.YtemnlolkmjdefaaGreatDoorPb
namespace Go.Proofs.YtemnlolkmjdefaaGreatDoor
open Go.RowKit

theorem tr_take {l : List Ent} (h : TR l) (n : Nat) : TR (l.take n) := ⟨rl_take h.1 n, fun e he => h.2 e (List.mem_of_mem_take he)⟩
theorem tr_snoc10 {l : List Ent} {e : Ent} : TR (l ++ [e]) ↔ TR l ∧ rE e = true ∧ e.2.1 ≤ 2 ∧ (∀ a, l.getLast? = some a → lt8 (pl a) (pl e) = true) ∧ inD l e := by
  unfold TR
  rw [rl_snoc]
  constructor
  · rintro ⟨⟨h1, h2, h3, h4⟩, h5⟩
    exact ⟨⟨h1, fun x hx => h5 x (by simp [hx])⟩, h2, h5 e (by simp), h3, h4⟩
  · rintro ⟨⟨h1, h2⟩, h3, h4, h5, h6⟩
    refine ⟨⟨h1, h3, h5, h6⟩, fun x hx => ?_⟩
    rcases List.mem_append.1 hx with h | h
    · exact h2 x h
    · obtain rfl : x = e := by simpa using h
      exact h4
theorem hd_tree {e : Ent} (h : e.2.1 ≤ 2) : hd e = (e.2.1 == 2) := by
  unfold hd
  rw [show (e.2.1 == 4) = false by rw [beq_eq_false_iff_ne]; omega, Bool.or_false]
attribute [local go_sem ↓] old_ldi old_lds old_lde3
attribute [local go_sem] oldC_forall isC1_ptr isS1_ptr c1V_ptr isE3_ptr e3V_ptr
end Go.Proofs.YtemnlolkmjdefaaGreatDoor
