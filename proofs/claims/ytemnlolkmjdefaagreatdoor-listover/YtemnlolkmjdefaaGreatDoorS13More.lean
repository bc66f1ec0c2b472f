/-
  One name more in a rising list of names (ListOver): where each stands. No condition.
-/
import Derived.Test.YtemnlolkmjdefaaGreatDoorPb
namespace Go.Proofs.YtemnlolkmjdefaaGreatDoor
open Go.RowKit

/-- A rising list with a name. -/
def moreN (A : List (List UInt8)) (n : List UInt8) : List (List UInt8) := A.filter (fun m => lt8 m n) ++ n :: A.filter (fun m => lt8 n m)
/-- How many stand ahead of the name. -/
def befN (A : List (List UInt8)) (n : List UInt8) : Nat := (A.filter fun m => lt8 m n).length
section
variable {A : List (List UInt8)} {n : List UInt8}
theorem moreN_asc (h : AscN A) : AscN (moreN A n) := by
  unfold moreN
  refine List.pairwise_append.2 ⟨h.filter _, List.pairwise_cons.2 ⟨fun x hx => (List.mem_filter.1 hx).2, h.filter _⟩, fun x hx y hy => ?_⟩
  have h1 := (List.mem_filter.1 hx).2
  rcases List.mem_cons.1 hy with rfl | hy
  · exact h1
  · exact lt8_trans h1 (List.mem_filter.1 hy).2
theorem moreN_in (h : AscN A) (hn : n ∈ A) : moreN A n = A := by
  refine ascN_ext (moreN_asc h) h fun x => ?_
  unfold moreN
  rw [List.mem_append, List.mem_cons, List.mem_filter, List.mem_filter]
  constructor
  · rintro (⟨h1, _⟩ | rfl | ⟨h1, _⟩)
    · exact h1
    · exact hn
    · exact h1
  · intro hx
    rcases lt8_tri x n with e | e | e
    · exact .inr (.inl e)
    · exact .inl ⟨hx, e⟩
    · exact .inr (.inr ⟨hx, e⟩)
theorem moreN_out (h : AscN A) (hn : n ∉ A) : A = A.filter (fun m => lt8 m n) ++ A.filter (fun m => lt8 n m) := by
  refine ascN_ext h ?_ fun x => ?_
  · refine List.pairwise_append.2 ⟨h.filter _, h.filter _, fun x hx y hy => lt8_trans (List.mem_filter.1 hx).2 (List.mem_filter.1 hy).2⟩
  · rw [List.mem_append, List.mem_filter, List.mem_filter]
    constructor
    · intro hx
      rcases lt8_tri x n with e | e | e
      · exact absurd (e ▸ hx) hn
      · exact .inl ⟨hx, e⟩
      · exact .inr ⟨hx, e⟩
    · rintro (⟨h1, _⟩ | ⟨h1, _⟩)
      · exact h1
      · exact h1
theorem more_at : (moreN A n)[befN A n]? = some n := by
  unfold moreN befN
  rw [List.getElem?_append_right (Nat.le_refl _), Nat.sub_self]
  rfl
theorem more_len : befN A n < (moreN A n).length := (List.getElem?_eq_some_iff.1 (more_at (A := A) (n := n))).1
/-- Ahead of the name. -/
theorem more_lt (h : AscN A) {i : Nat} (hi : i < befN A n) : ∃ x, A[i]? = some x ∧ (moreN A n)[i]? = some x ∧ x ≠ n := by
  have hb : (moreN A n)[i]? = (A.filter fun m => lt8 m n)[i]? := by
    unfold moreN
    rw [List.getElem?_append_left hi]
  have ha : A[i]? = (A.filter fun m => lt8 m n)[i]? := by
    by_cases hn : n ∈ A
    · conv => lhs; rw [← moreN_in h hn]
      exact hb
    · conv => lhs; rw [moreN_out h hn]
      rw [List.getElem?_append_left hi]
  have hx := List.getElem?_eq_getElem (show i < (A.filter fun m => lt8 m n).length from hi)
  rw [hx] at ha hb
  exact ⟨_, ha, hb, lt8_ne (List.mem_filter.1 (List.getElem_mem hi)).2⟩
/-- Behind it. -/
theorem more_gt (h : AscN A) (hn : n ∉ A) {i : Nat} (hi : befN A n < i) (hl : i < (moreN A n).length) : ∃ x, A[i - 1]? = some x ∧ (moreN A n)[i]? = some x := by
  obtain ⟨j, rfl⟩ : ∃ j, i = befN A n + 1 + j := ⟨i - (befN A n + 1), by omega⟩
  have hb : (moreN A n)[befN A n + 1 + j]? = (A.filter fun m => lt8 n m)[j]? := by
    unfold moreN befN
    rw [List.getElem?_append_right (by omega), show (A.filter fun m => lt8 m n).length + 1 + j - (A.filter fun m => lt8 m n).length = j + 1 by omega, List.getElem?_cons_succ]
  have ha : A[befN A n + j]? = (A.filter fun m => lt8 n m)[j]? := by
    have h9 : A[befN A n + j]? = (A.filter (fun m => lt8 m n) ++ A.filter (fun m => lt8 n m))[befN A n + j]? := congrArg (fun l : List (List UInt8) => l[befN A n + j]?) (moreN_out h hn)
    rw [h9]
    unfold befN
    rw [List.getElem?_append_right (by omega), show (A.filter fun m => lt8 m n).length + j - (A.filter fun m => lt8 m n).length = j by omega]
  rw [List.getElem?_eq_getElem hl] at hb
  exact ⟨_, by rw [show befN A n + 1 + j - 1 = befN A n + j by omega, ha, ← hb], List.getElem?_eq_getElem hl⟩
theorem more_out_len (h : AscN A) (hn : n ∉ A) : (moreN A n).length = A.length + 1 := by
  have := congrArg List.length (moreN_out h hn)
  rw [List.length_append] at this
  unfold moreN
  rw [List.length_append, List.length_cons]
  omega
end
/-- How far the first list has been met behind i names of the second one. -/
def metN (A : List (List UInt8)) (n : List UInt8) (i : Nat) : Nat := if i ≤ befN A n ∨ n ∈ A then i else i - 1
theorem metN_zero (A : List (List UInt8)) (n : List UInt8) : metN A n 0 = 0 := by
  unfold metN
  split <;> rfl
theorem metN_end {A : List (List UInt8)} {n : List UInt8} (h : AscN A) : metN A n (moreN A n).length = A.length := by
  unfold metN
  by_cases hn : n ∈ A
  · rw [if_pos (.inr hn), moreN_in h hn]
  · have h1 := more_len (A := A) (n := n)
    have h2 := more_out_len h hn
    rw [if_neg (by rintro (h3 | h3); omega; exact hn h3)]
    omega
/-- One round: met, or the name itself, met nowhere. -/
theorem met_step {A : List (List UInt8)} {n : List UInt8} (h : AscN A) {i : Nat} (hi : i < (moreN A n).length) :
    (∃ x, A[metN A n i]? = some x ∧ (moreN A n)[i]? = some x ∧ metN A n (i + 1) = metN A n i + 1 ∧ (befN A n < i ∨ (x = n ↔ i = befN A n))) ∨
    (i = befN A n ∧ (moreN A n)[i]? = some n ∧ A[metN A n i]? ≠ some n ∧ metN A n (i + 1) = metN A n i) := by
  by_cases hn : n ∈ A
  · refine .inl ⟨(moreN A n)[i], ?_, List.getElem?_eq_getElem hi, ?_, ?_⟩
    · unfold metN
      rw [if_pos (.inr hn)]
      conv => lhs; rw [← moreN_in h hn]
      exact List.getElem?_eq_getElem hi
    · unfold metN
      rw [if_pos (.inr hn), if_pos (.inr hn)]
    · rcases Nat.lt_trichotomy i (befN A n) with h1 | h1 | h1
      · obtain ⟨x, _, h3, h4⟩ := more_lt h h1
        rw [List.getElem?_eq_getElem hi] at h3
        refine .inr ⟨fun e => absurd (Option.some.inj h3 ▸ e) h4, fun e => by omega⟩
      · have h3 := more_at (A := A) (n := n)
        rw [← h1, List.getElem?_eq_getElem hi] at h3
        exact .inr ⟨fun _ => h1, fun _ => Option.some.inj h3⟩
      · exact .inl h1
  · rcases Nat.lt_trichotomy i (befN A n) with h1 | h1 | h1
    · obtain ⟨x, h2, h3, h4⟩ := more_lt h h1
      refine .inl ⟨x, ?_, h3, ?_, .inr ⟨fun e => absurd e h4, fun e => by omega⟩⟩
      · unfold metN
        rw [if_pos (.inl (by omega))]
        exact h2
      · unfold metN
        rw [if_pos (.inl (by omega)), if_pos (.inl (by omega))]
    · refine .inr ⟨h1, h1 ▸ more_at, fun e => hn (List.mem_of_getElem? e), ?_⟩
      unfold metN
      rw [if_neg (by rintro (h3 | h3); omega; exact hn h3), if_pos (.inl (by omega))]
      omega
    · obtain ⟨x, h2, h3⟩ := more_gt h hn h1 hi
      refine .inl ⟨x, ?_, h3, ?_, .inl h1⟩
      · unfold metN
        rw [if_neg (by rintro (h3 | h3); omega; exact hn h3)]
        exact h2
      · unfold metN
        rw [if_neg (by rintro (h3 | h3); omega; exact hn h3), if_neg (by rintro (h3 | h3); omega; exact hn h3)]
        omega
end Go.Proofs.YtemnlolkmjdefaaGreatDoor
