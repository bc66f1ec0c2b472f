/-
  Whether an entry of a tree goes when a right layer is laid over it, told by what a map of the layer has at the entry's path and at those above it. No condition.
-/
import Derived.Test.YtemnlolkmjdefaaGreatDoorS10Sort
namespace Go.Proofs.YtemnlolkmjdefaaGreatDoor
open Go.RowKit

/-- What a layer's map has. -/
def kd (l : List Ent) : List UInt8 → Option Value := l.foldl (fun f e => fun x => if x = pl e then some (.int .i64 e.2.1) else f x) fun _ => none
theorem kd_snoc (l : List Ent) (e : Ent) : kd (l ++ [e]) = fun x => if x = pl e then some (.int .i64 e.2.1) else kd l x := by unfold kd; rw [List.foldl_append]; rfl
theorem kd_fnd {l : List Ent} (h : Asc l) (p : List UInt8) : kd l p = (fnd l p).map fun e => .int .i64 e.2.1 := by
  have key : ∀ n (l : List Ent), l.length = n → Asc l → kd l p = (fnd l p).map fun e => .int .i64 e.2.1 := by
    intro n
    induction n with
    | zero => intro l hl _; rw [List.length_eq_zero_iff.1 hl]; rfl
    | succ n ih =>
      intro l hl hA
      rcases List.eq_nil_or_concat l with rfl | ⟨r, e, rfl⟩
      · simp at hl
      · rw [List.concat_eq_append] at *
        obtain ⟨h1, h2⟩ := asc_snoc.1 hA
        rw [kd_snoc]
        show (if p = pl e then some (.int .i64 e.2.1) else kd r p) = _
        rw [ih r (by simpa using hl) h1]
        by_cases hp : p = pl e
        · simp only [if_pos hp]
          rw [(fnd_some hA).2 ⟨by simp, hp.symm⟩]
          rfl
        · simp only [if_neg hp]
          congr 1
          unfold fnd
          rw [List.find?_append, List.find?_cons_of_neg (by simpa using fun h => hp h.symm)]
          simp
  exact key _ l rfl h
/-- Is a path, or one above it, that of an entry that lets nothing through? -/
def gup (l : List Ent) (p : List UInt8) : Bool := l.any fun e => e.2.1 != 2 && (decide (p = pl e) || und p (pl e))
/-- Is it the path itself? -/
def gat (l : List Ent) (p : List UInt8) : Bool := match fnd l p with
  | some e => e.2.1 != 2
  | none => false
theorem gup_any {l : List Ent} {p : List UInt8} (f : Ent → Bool) (h : ∀ e ∈ l, (e.2.1 != 2 && (decide (p = pl e) || und p (pl e))) = f e) : gup l p = l.any f := by
  unfold gup
  rw [Bool.eq_iff_iff, List.any_eq_true, List.any_eq_true]
  exact ⟨fun ⟨e, h1, h2⟩ => ⟨e, h1, by rw [← h e h1]; exact h2⟩, fun ⟨e, h1, h2⟩ => ⟨e, h1, by rw [h e h1]; exact h2⟩⟩
theorem gat_any {l : List Ent} (hA : Asc l) (p : List UInt8) : gat l p = l.any fun e => e.2.1 != 2 && decide (p = pl e) := by
  unfold gat
  cases hf : fnd l p with
  | none =>
    have := fnd_none.1 hf
    rw [eq_comm, List.any_eq_false]
    intro e he h
    rw [Bool.and_eq_true, decide_eq_true_iff] at h
    exact this e he h.2.symm
  | some e =>
    obtain ⟨h1, h2⟩ := (fnd_some hA).1 hf
    show (e.2.1 != 2) = _
    rw [Bool.eq_iff_iff, List.any_eq_true]
    constructor
    · intro h
      exact ⟨e, h1, by rw [h, decide_eq_true h2.symm]; rfl⟩
    · rintro ⟨x, h3, h4⟩
      rw [Bool.and_eq_true, decide_eq_true_iff] at h4
      obtain rfl := asc_inj hA h1 h3 (h2.trans h4.2)
      exact h4.1
theorem any_or {α : Type} (l : List α) (f g : α → Bool) : (l.any fun e => f e || g e) = (l.any f || l.any g) := by
  induction l with
  | nil => rfl
  | cons x r ih => simp only [List.any_cons, ih]; cases f x <;> cases g x <;> simp
theorem gup_step {l : List Ent} (hA : Asc l) {p : List UInt8} (hp : isP p) (h1 : p ≠ [47]) : gup l p = (gat l p || gup l (par9 p)) := by
  rw [gat_any hA]
  unfold gup
  rw [← any_or]
  congr 1
  funext e
  rw [und_par9 hp h1, show decide (pl e = par9 p) = decide (par9 p = pl e) from by rw [decide_eq_decide]; exact eq_comm]
  cases e.2.1 != 2 <;> simp
theorem root_und (q : List UInt8) : und [47] q = false := by
  cases h : und [47] q with
  | false => rfl
  | true =>
    obtain ⟨h1, h2⟩ := und_longer h
    have h3 : isP q := by
      unfold und at h
      exact (of_decide_eq_true h).2.1
    have := h3.1
    cases q with
    | nil => simp at this
    | cons c r => simp at h2
theorem gup_root {l : List Ent} (hr : ∀ e ∈ l, rE e = true) : gup l [47] = false ∧ gat l [47] = false := by
  refine ⟨?_, ?_⟩
  · unfold gup
    rw [List.any_eq_false]
    intro e he h
    rw [root_und, Bool.or_false, Bool.and_eq_true, decide_eq_true_iff] at h
    exact (rE_isP (hr e he)).2 h.2.symm
  · unfold gat
    rw [fnd_none.2 fun e he => (rE_isP (hr e he)).2]
theorem goes_gup {l : List Ent} {x : Ent} (hx : rE x = true) : goes l x = ((fnd l (pl x)).isSome || gup l (par9 (pl x))) := by
  obtain ⟨p1, p2⟩ := rE_isP hx
  have h1 : (fnd l (pl x)).isSome = l.any fun e => decide (pl x = pl e) := by
    unfold fnd
    rw [Bool.eq_iff_iff, List.find?_isSome, List.any_eq_true]
    constructor
    · rintro ⟨e, h1, h2⟩
      exact ⟨e, h1, by simpa using (by simpa using h2 : pl e = pl x).symm⟩
    · rintro ⟨e, h1, h2⟩
      exact ⟨e, h1, by simpa using (by simpa using h2 : pl x = pl e).symm⟩
  rw [h1]
  unfold goes gup
  rw [← any_or]
  congr 1
  funext e
  rw [und_par9 p1 p2, show decide (pl e = par9 (pl x)) = decide (par9 (pl x) = pl e) from by rw [decide_eq_decide]; exact eq_comm]
end Go.Proofs.YtemnlolkmjdefaaGreatDoor
