/-
  What a layer laid over a tree comes to, told by what stays of the tree, what the layer shows, and the order of paths. No condition.
-/
import Derived.Test.YtemnlolkmjdefaaGreatDoorPb
namespace Go.Proofs.YtemnlolkmjdefaaGreatDoor
open Go.RowKit

/-- Does an entry of a tree go when a layer is laid over it? -/
def goes (l : List Ent) (x : Ent) : Bool := l.any fun e => decide (pl x = pl e) || (e.2.1 != 2 && und (pl x) (pl e))
/-- What stays of a tree. -/
def kept (t l : List Ent) : List Ent := t.filter fun x => !goes l x
/-- What a layer shows of its own. -/
def news (l : List Ent) : List Ent := (l.filter fun e => e.2.1 != 3).map sh
theorem goes_false {l : List Ent} {x : Ent} : goes l x = false ↔ ∀ e ∈ l, pl x ≠ pl e ∧ (e.2.1 ≠ 2 → und (pl x) (pl e) = false) := by
  unfold goes
  rw [List.any_eq_false]
  constructor
  · intro h e he
    have h1 := h e he
    rw [Bool.or_eq_true, decide_eq_true_iff, Bool.and_eq_true, bne_iff_ne] at h1
    refine ⟨fun h2 => h1 (.inl h2), fun h2 => ?_⟩
    cases hu : und (pl x) (pl e) with
    | false => rfl
    | true => exact absurd (.inr ⟨h2, hu⟩) h1
  · intro h e he h1
    rw [Bool.or_eq_true, decide_eq_true_iff, Bool.and_eq_true, bne_iff_ne] at h1
    rcases h1 with h1 | ⟨h1, h2⟩
    · exact (h e he).1 h1
    · rw [(h e he).2 h1] at h2
      cases h2
theorem mem_pile {t l : List Ent} {x : Ent} : x ∈ kept t l ++ news l ↔ (∃ e ∈ l, e.2.1 ≠ 3 ∧ x = sh e) ∨ (x ∈ t ∧ ∀ e ∈ l, pl x ≠ pl e ∧ (e.2.1 ≠ 2 → und (pl x) (pl e) = false)) := by
  unfold kept news
  rw [List.mem_append, List.mem_filter, List.mem_map, ← goes_false]
  constructor
  · rintro (⟨h1, h2⟩ | ⟨e, he, rfl⟩)
    · exact .inr ⟨h1, by simpa using h2⟩
    · obtain ⟨h3, h4⟩ := List.mem_filter.1 he
      exact .inl ⟨e, h3, by simpa using h4, rfl⟩
  · rintro (⟨e, he, h1, rfl⟩ | ⟨h1, h2⟩)
    · exact .inr ⟨e, List.mem_filter.2 ⟨he, by simpa using h1⟩, rfl⟩
    · exact .inl ⟨h1, by rw [h2]; rfl⟩
theorem pile_ne {t l : List Ent} (ht : Asc t) (hl : Asc l) : (kept t l ++ news l).Pairwise fun a b => pl a ≠ pl b := by
  rw [List.pairwise_append]
  refine ⟨?_, ?_, ?_⟩
  · exact (List.Pairwise.filter _ ht).imp fun h => lt8_ne h
  · unfold news
    rw [List.pairwise_map]
    exact (List.Pairwise.filter _ hl).imp fun h => by rw [pl_sh, pl_sh]; exact lt8_ne h
  · intro a ha b hb
    obtain ⟨_, h2⟩ := List.mem_filter.1 ha
    unfold news at hb
    obtain ⟨e, he, rfl⟩ := List.mem_map.1 hb
    rw [pl_sh]
    exact (goes_false.1 (by simpa using h2) e (List.mem_filter.1 he).1).1
theorem pile_len (t l : List Ent) : (kept t l ++ news l).length ≤ t.length + l.length := by
  unfold kept news
  rw [List.length_append, List.length_map]
  have h1 := List.length_filter_le (fun x => !goes l x) t
  have h2 := List.length_filter_le (fun e : Ent => e.2.1 != 3) l
  omega
/-- What is there, sorted by its paths, is what the layer laid over the tree comes to. -/
theorem pile_sorted {t l c : List Ent} (ht : Asc t) (hl : Asc l) (hr : ∀ e ∈ l, rE e = true) (hp : c.Perm (kept t l ++ news l)) (hs : c.Pairwise fun a b => lt8 (pl b) (pl a) = false) : c = over t l := by
  have hne : c.Pairwise fun a b => pl a ≠ pl b := (hp.pairwise_iff fun h => Ne.symm h).2 (pile_ne ht hl)
  have hA : Asc c := (hs.and hne).imp fun ⟨h1, h2⟩ => by
    rcases lt8_tri _ _ with h | h | h
    · exact absurd h h2
    · exact h
    · rw [h1] at h
      cases h
  refine asc_ext hA (asc_over ht) fun x => ?_
  rw [hp.mem_iff, mem_pile, mem_over hr hl]
theorem kept_snoc (t l : List Ent) (x : Ent) : kept (t ++ [x]) l = if goes l x = true then kept t l else kept t l ++ [x] := by
  unfold kept
  rw [List.filter_append]
  cases h : goes l x <;> simp [h]
theorem news_snoc (l : List Ent) (x : Ent) : news (l ++ [x]) = if x.2.1 = 3 then news l else news l ++ [sh x] := by
  unfold news
  rw [List.filter_append, List.map_append]
  by_cases h : x.2.1 = 3
  · simp [h]
  · simp [h]
end Go.Proofs.YtemnlolkmjdefaaGreatDoor
