/-
  Runs of free places in a list of bools: the run at a list's end, the longest one, how many are free, the first run of a length. No condition.
-/
import Derived.WalkKit
namespace Go.Proofs.YtjghfecnekgfpaaDoor

theorem snoc_ind {P : List Bool → Prop} (h0 : P []) (hs : ∀ l x, P l → P (l ++ [x])) : ∀ l, P l := by
  intro l
  rw [← List.reverse_reverse l]
  induction l.reverse with
  | nil => exact h0
  | cons x r ih => rw [List.reverse_cons]; exact hs _ _ ih

/-- How long the run is that ends with a place. -/
def bh (r : Nat) (x : Bool) : Nat := if x then 0 else r + 1
/-- How long the run is that ends with the list. -/
def tr (l : List Bool) : Nat := l.foldl bh 0
theorem tr_snoc (l : List Bool) (x : Bool) : tr (l ++ [x]) = bh (tr l) x := by simp [tr]
theorem bh_le (r : Nat) (x : Bool) : bh r x ≤ r + 1 := by unfold bh; split <;> omega

/-- n places from a on are free. -/
def isRun (l : List Bool) (a n : Nat) : Prop := a + n ≤ l.length ∧ ∀ j, j < n → l[a + j]? = some false
theorem isRun.append {l : List Bool} {a n : Nat} (h : isRun l a n) (m : List Bool) : isRun (l ++ m) a n := by
  refine ⟨by rw [List.length_append]; have := h.1; omega, fun j hj => ?_⟩
  rw [List.getElem?_append_left (by have := h.1; omega)]
  exact h.2 j hj
theorem isRun.left {l m : List Bool} {a n : Nat} (h : isRun (l ++ m) a n) (hl : a + n ≤ l.length) : isRun l a n := by
  refine ⟨hl, fun j hj => ?_⟩
  rw [← h.2 j hj, List.getElem?_append_left (by omega)]
theorem isRun.short {l : List Bool} {a n m : Nat} (h : isRun l a n) (hm : m ≤ n) : isRun l a m := ⟨by have := h.1; omega, fun j hj => h.2 j (by omega)⟩
theorem isRun.of_take {l : List Bool} {k a n : Nat} (h : isRun (l.take k) a n) : isRun l a n := by
  have := h.append (l.drop k)
  rwa [List.take_append_drop] at this
theorem isRun.take {l : List Bool} {k a n : Nat} (h : isRun l a n) (hk : a + n ≤ k) : isRun (l.take k) a n := by
  rw [← List.take_append_drop k l] at h
  exact h.left (by rw [List.length_take]; have := h.1; rw [List.take_append_drop] at this; omega)

theorem tr_run : ∀ l : List Bool, tr l ≤ l.length ∧ isRun l (l.length - tr l) (tr l) := by
  apply snoc_ind
  · exact ⟨Nat.le_refl _, Nat.le_refl _, fun j hj => by simp [tr] at hj⟩
  · rintro l x ⟨h1, h2⟩
    rw [tr_snoc]
    cases x with
    | true => exact ⟨by simp [bh], by simp [bh], fun j hj => by simp [bh] at hj⟩
    | false =>
      have e : bh (tr l) false = tr l + 1 := rfl
      rw [e, List.length_append]
      refine ⟨by simp; omega, by simp; omega, fun j hj => ?_⟩
      have e2 : l.length + [false].length - (tr l + 1) = l.length - tr l := by simp
      rw [e2]
      by_cases hj2 : j < tr l
      · rw [List.getElem?_append_left (by omega)]
        exact h2.2 j hj2
      · have e3 : l.length - tr l + j = l.length := by omega
        rw [e3, List.getElem?_append_right (Nat.le_refl _)]
        simp
theorem run_tr : ∀ (l : List Bool) (a n : Nat), isRun l a n → a + n = l.length → n ≤ tr l := by
  refine snoc_ind (P := fun l => ∀ a n, isRun l a n → a + n = l.length → n ≤ tr l) ?_ ?_
  · intro a n _ h
    simp at h
    omega
  · intro l x ih a n h hl
    rw [List.length_append, List.length_singleton] at hl
    cases n with
    | zero => omega
    | succ n =>
      have hx : x = false := by
        have := h.2 n (by omega)
        rw [show a + n = l.length by omega, List.getElem?_append_right (Nat.le_refl _)] at this
        simpa using this
      subst hx
      have := ih a n ((h.short (m := n) (by omega)).left (by omega)) (by omega)
      rw [tr_snoc]
      show n + 1 ≤ tr l + 1
      omega

/-- How long the longest run is. -/
def lgp (l : List Bool) : Nat × Nat := l.foldl (fun s x => (bh s.1 x, max s.2 (bh s.1 x))) (0, 0)
def lg (l : List Bool) : Nat := (lgp l).2
theorem lgp_fst : ∀ l, (lgp l).1 = tr l := by
  apply snoc_ind
  · rfl
  · intro l x ih
    rw [tr_snoc, ← ih]
    simp [lgp]
theorem lg_snoc (l : List Bool) (x : Bool) : lg (l ++ [x]) = max (lg l) (bh (tr l) x) := by
  unfold lg
  rw [← lgp_fst]
  simp [lgp]
theorem lg_run : ∀ l : List Bool, ∃ a, isRun l a (lg l) := by
  apply snoc_ind
  · exact ⟨0, Nat.le_refl _, fun j hj => by simp [lg, lgp] at hj⟩
  · rintro l x ⟨a, h⟩
    rw [lg_snoc]
    rcases Nat.le_total (lg l) (bh (tr l) x) with h1 | h1
    · rw [Nat.max_eq_right h1, ← tr_snoc]
      exact ⟨_, (tr_run _).2⟩
    · rw [Nat.max_eq_left h1]
      exact ⟨a, h.append _⟩
theorem run_lg : ∀ (l : List Bool) (a n : Nat), isRun l a n → n ≤ lg l := by
  refine snoc_ind (P := fun l => ∀ a n, isRun l a n → n ≤ lg l) ?_ ?_
  · intro a n h
    have := h.1
    simp at this
    omega
  · intro l x ih a n h
    rw [lg_snoc]
    by_cases h1 : a + n ≤ l.length
    · exact Nat.le_trans (ih a n (h.left h1)) (Nat.le_max_left _ _)
    · have := run_tr _ a n h (by have := h.1; rw [List.length_append, List.length_singleton] at this ⊢; omega)
      rw [tr_snoc] at this
      exact Nat.le_trans this (Nat.le_max_right _ _)

/-- How many are free. -/
def fr (l : List Bool) : Nat := l.countP fun x => !x
theorem fr_snoc (l : List Bool) (x : Bool) : fr (l ++ [x]) = fr l + (if x then 0 else 1) := by
  unfold fr
  rw [List.countP_append]
  cases x <;> rfl
theorem fr_le (l : List Bool) : fr l ≤ l.length := List.countP_le_length
theorem tr_fr : ∀ l : List Bool, tr l ≤ fr l := by
  apply snoc_ind
  · exact Nat.le_refl _
  · intro l x ih
    rw [tr_snoc, fr_snoc]
    cases x <;> simp [bh]
    exact ih
theorem lg_fr : ∀ l : List Bool, lg l ≤ fr l := by
  apply snoc_ind
  · exact Nat.le_refl _
  · intro l x ih
    have h := tr_fr (l ++ [x])
    rw [tr_snoc] at h
    rw [lg_snoc]
    refine Nat.max_le.2 ⟨?_, h⟩
    rw [fr_snoc]
    omega
theorem lg_le (l : List Bool) : lg l ≤ l.length := Nat.le_trans (lg_fr l) (fr_le l)
theorem tr_le (l : List Bool) : tr l ≤ l.length := (tr_run l).1

/-- Where the first run of n begins, and whether there is one. -/
def FirstIs (l : List Bool) (n at_ : Nat) (ok : Bool) : Prop := (ok = true ∧ isRun l at_ n ∧ ∀ a, a < at_ → ¬ isRun l a n) ∨ (ok = false ∧ at_ = 0 ∧ ∀ a, ¬ isRun l a n)
theorem FirstIs.eq {l : List Bool} {n a b : Nat} {x y : Bool} (h : FirstIs l n a x) (h' : FirstIs l n b y) : a = b ∧ x = y := by
  rcases h with ⟨rfl, h1, h2⟩ | ⟨rfl, rfl, h1⟩ <;> rcases h' with ⟨rfl, h3, h4⟩ | ⟨rfl, rfl, h3⟩
  · refine ⟨?_, rfl⟩
    rcases Nat.lt_trichotomy a b with h | h | h
    · exact absurd h1 (h4 a h)
    · exact h
    · exact absurd h3 (h2 b h)
  · exact absurd h1 (h3 a)
  · exact absurd h3 (h1 b)
  · exact ⟨rfl, rfl⟩
theorem FirstIs.lg {l : List Bool} {n a : Nat} {ok : Bool} (h : FirstIs l n a ok) : ok = decide (n ≤ lg l) := by
  rcases h with ⟨rfl, h1, _⟩ | ⟨rfl, _, h1⟩
  · exact (decide_eq_true (run_lg l a n h1)).symm
  · refine (decide_eq_false fun hn => ?_).symm
    obtain ⟨b, hb⟩ := lg_run l
    exact h1 b (hb.short hn)
/-- One place more: the run that ends there has n, and is the first one. -/
theorem first_hit {l : List Bool} {n k : Nat} {x : Bool} (hk : k < l.length) (ht : l.take (k + 1) = l.take k ++ [x]) (hs : ∀ a, a + n ≤ k → ¬ isRun l a n) (he : bh (tr (l.take k)) x = n) : n ≤ k + 1 ∧ FirstIs l n (k + 1 - n) true := by
  have h := tr_run (l.take (k + 1))
  rw [ht, tr_snoc, he, ← ht, List.length_take, Nat.min_eq_left (by omega)] at h
  exact ⟨h.1, .inl ⟨rfl, h.2.of_take, fun a ha => hs a (by omega)⟩⟩
theorem first_miss {l : List Bool} {n k : Nat} {x : Bool} (hk : k < l.length) (ht : l.take (k + 1) = l.take k ++ [x]) (hs : ∀ a, a + n ≤ k → ¬ isRun l a n) (hlt : tr (l.take k) < n) (he : bh (tr (l.take k)) x ≠ n) : tr (l.take (k + 1)) < n ∧ ∀ a, a + n ≤ k + 1 → ¬ isRun l a n := by
  have h0 := bh_le (tr (l.take k)) x
  have h1 : tr (l.take (k + 1)) < n := by rw [ht, tr_snoc]; omega
  refine ⟨h1, fun a ha hr => ?_⟩
  by_cases h2 : a + n ≤ k
  · exact hs a h2 hr
  · have := run_tr _ a n (hr.take (k := k + 1) (by omega)) (by rw [List.length_take, Nat.min_eq_left (by omega)]; omega)
    omega
theorem first_none {l : List Bool} {n : Nat} (hs : ∀ a, a + n ≤ l.length → ¬ isRun l a n) : FirstIs l n 0 false := .inr ⟨rfl, rfl, fun a h => hs a h.1 h⟩
end Go.Proofs.YtjghfecnekgfpaaDoor
