/-
  A region that draws its order, of which the first n operations leave what was there as it was and yield the same in every order (OldQ), and the others come one behind the other: one walk of the first ones in the order of the text, then the others as a plain list. No condition.
-/
import Derived.Test.YtflomllfehoedaaDoorOldQ
import Derived.StillTail
namespace Go.Proofs.YtflomllfehoedaaDoor
open Go.RowKit

/-- What is asked of the first n operations: they wait for earlier ones alone, and their guards are among them. -/
def headOk (l : List Oper) (n : Nat) : Bool :=
  (List.range n).all fun i => match l[i]? with
    | some o => (o.after.all fun e => decide (e.on < i)) && (match o.guard with
      | some (j, _) => decide (j < n)
      | none => true)
    | none => false
theorem headOk_at {l : List Oper} {n i : Nat} (h : headOk l n = true) (hi : i < n) : ∃ o, l[i]? = some o ∧ (∀ e ∈ o.after, e.on < i) ∧ ∀ j b, o.guard = some (j, b) → j < n := by
  have h1 := List.all_eq_true.1 h i (List.mem_range.2 hi)
  cases ho : l[i]? with
  | none => rw [ho] at h1; cases h1
  | some o =>
    rw [ho] at h1
    simp only [Bool.and_eq_true] at h1
    refine ⟨o, rfl, fun e he => ?_, fun j b hg => ?_⟩
    · have := Array.all_eq_true_iff_forall_mem.1 h1.1 e he
      simpa using this
    · rw [hg] at h1
      simpa using h1.2
theorem take_at9 {l : List Oper} {n i : Nat} (hi : i < n) : (l.take n).toArray[i]? = l.toArray[i]? := by
  simp [hi]
theorem yielded_head {l : List Oper} {n j : Nat} (hj : j < n) (t : Array Value) : yielded (l.take n).toArray t j = yielded l.toArray t j := by
  unfold yielded
  rw [take_at9 hj]
theorem wanted_head {l : List Oper} {n : Nat} {o : Oper} (h : ∀ j b, o.guard = some (j, b) → j < n) (t : Array Value) : Region.wanted o (yielded (l.take n).toArray t) = Region.wanted o (yielded l.toArray t) := by
  unfold Region.wanted
  cases hg : o.guard with
  | none => rfl
  | some g =>
    obtain ⟨j, b⟩ := g
    simp only
    rw [yielded_head (h j b hg)]
theorem wpOp_head {P : Program} {l : List Oper} {n i : Nat} {C : World → Prop} {K : Act → Prop} {K' : Act → World → Prop} {Q : Exit → Act → World → Prop} {a : Act} {w : World} (hh : headOk l n = true) (hi : i < n) (hC : C w) (hK : ∀ a w', C w' → K a → K' a w')
    (h : qOp P (l.take n).toArray C i K a) : wpOp P l.toArray Q i K' a w := by
  obtain ⟨o, ho, _, hg⟩ := headOk_at hh hi
  have h0 : l.toArray[i]? = some o := by simpa using ho
  unfold qOp at h
  unfold wpOp
  rw [take_at9 hi, h0] at h
  rw [h0]
  simp only at h ⊢
  rw [wanted_head hg] at h
  split
  · rename_i hw
    rw [if_pos hw] at h
    exact .inl (Oper.wp_of_quiet hC hK h)
  · rename_i hw
    rw [if_neg hw] at h
    exact hK _ _ hC h
theorem getD_left {a b : Array Bool} {i : Nat} (h : i < a.size) (d : Bool) : (a ++ b).getD i d = a.getD i d := by
  rw [Array.getD_eq_getD_getElem?, Array.getD_eq_getD_getElem?, Array.getElem?_append_left h]
theorem least_open : ∀ (n : Nat) (p : Nat → Bool), (∃ i, i < n ∧ p i = false) → ∃ i, i < n ∧ p i = false ∧ ∀ j, j < i → p j = true := by
  intro n
  induction n with
  | zero => rintro p ⟨i, hi, _⟩; omega
  | succ n ih =>
    rintro p ⟨i, hi, hp⟩
    by_cases h : ∃ i, i < n ∧ p i = false
    · obtain ⟨j, h1, h2, h3⟩ := ih p h
      exact ⟨j, by omega, h2, h3⟩
    · have hin : i = n := by
        rcases Nat.lt_or_ge i n with h' | h'
        · exact absurd ⟨i, h', hp⟩ h
        · omega
      subst hin
      refine ⟨i, by omega, hp, fun j hj => ?_⟩
      cases hq : p j with
      | true => rfl
      | false => exact absurd ⟨j, hj, hq⟩ h
section
variable {P : Program} {l : List Oper} {n : Nat} {C : World → Prop} {Q : Exit → Act → World → Prop}
theorem any_head (hh : headOk l n = true) (hn : n < l.length) (hs : Region.sinkB .any l.toArray n = true) (hc : Region.chainB .any l.toArray n = true)
    (hseq : Region.seqB .any l.toArray (l.length - n) n (Array.replicate n true ++ Array.replicate (l.length - n) false) = true) :
    ∀ (f : Nat) (m : Array Bool) (a : Act) (w : World), m.size = n → m.toList.count false = f → HeadInv .any l.toArray n (m ++ Array.replicate (l.length - n) false) → C w →
      wpAnyQ P .any (l.take n).toArray C (fun a' => ∀ w', C w' → wpList P l.toArray Q (l.drop n) a' w') f m a → wpAny P .any l.toArray Q (f + (l.length - n)) (m ++ Array.replicate (l.length - n) false) a w := by
  intro f
  induction f with
  | zero =>
    intro m a w hm h0 _ hC h
    have hall : m = Array.replicate n true := by
      apply Array.ext'
      rw [Array.toList_replicate, List.eq_replicate_iff]
      refine ⟨by simpa using hm, fun b hb => ?_⟩
      cases b with
      | true => rfl
      | false => exact absurd hb (List.count_eq_zero.1 h0)
    subst hall
    rw [Nat.zero_add]
    have hd : (l.drop n).length = l.length - n := List.length_drop
    have := wpAny_of_seq (md := .any) (P := P) (Q' := Q) (ops := l.toArray) (l.drop n) n (Array.replicate n true ++ Array.replicate (l.length - n) false) a w (fun j => by simp [List.getElem?_drop]) (by rw [hd]; exact hseq) (h.2 w hC)
    rwa [hd] at this
  | succ f ih =>
    intro m a w hm hf inv hC h
    have hsome : ∃ i, i < n ∧ m.getD i true = false := by
      have : false ∈ m.toList := List.count_pos_iff.1 (by omega)
      obtain ⟨i, hi, he⟩ := List.mem_iff_getElem.1 this
      have hi' : i < m.size := by simpa using hi
      refine ⟨i, by omega, ?_⟩
      rw [Array.getD_eq_getD_getElem?, Array.getElem?_eq_getElem hi']
      simpa using he
    obtain ⟨i0, hi0, hp0, hleast⟩ := least_open n (fun i => m.getD i true) hsome
    have hun : (m ++ Array.replicate (l.length - n) false).getD i0 true = false := by rw [getD_left (by omega)]; exact hp0
    rw [show f + 1 + (l.length - n) = (f + (l.length - n)) + 1 by omega]
    refine ⟨fun hr => ?_, fun i hi => ?_⟩
    · obtain ⟨o, ho, haf, _⟩ := headOk_at hh hi0
      have : i0 ∈ Region.ready .any l.toArray (m ++ Array.replicate (l.length - n) false) := by
        rw [mem_ready]
        refine ⟨hun, o, by simpa using ho, fun e he _ => ?_⟩
        have h1 := haf e he
        have h2 := hleast e.on h1
        rw [getD_left (by omega)]
        have h3 : e.on < m.size := by omega
        rw [Array.getD_eq_getD_getElem?, Array.getElem?_eq_getElem h3] at h2 ⊢
        simpa using h2
      rw [hr] at this
      cases this
    · have hin : i < n := by
        rcases Nat.lt_or_ge i n with h' | h'
        · exact h'
        · exact absurd hi (tail_waits hs hc (by simpa using hn) inv _ i0 rfl hi0 hun i h')
      obtain ⟨hui, o, ho, haf⟩ := mem_ready.1 hi
      have hr' : i ∈ Region.ready .any (l.take n).toArray m := by
        rw [mem_ready]
        refine ⟨by rw [getD_left (by omega)] at hui; exact hui, o, by rw [take_at9 hin]; exact ho, fun e he hb => ?_⟩
        have h1 := haf e he hb
        obtain ⟨o', ho', haf', _⟩ := headOk_at hh hin
        obtain rfl : o' = o := by
          have : l.toArray[i]? = some o' := by simpa using ho'
          exact Option.some.inj (this.symm.trans ho)
        have h2 := haf' e he
        rw [getD_left (by omega)] at h1
        exact h1
      have hset : (m ++ Array.replicate (l.length - n) false).setIfInBounds i true = m.setIfInBounds i true ++ Array.replicate (l.length - n) false := by
        apply Array.ext'
        rw [Array.toList_setIfInBounds, Array.toList_append, Array.toList_append, Array.toList_setIfInBounds, List.set_append_left _ _ (by simp; omega)]
      have inv' := inv.set hi hin
      rw [hset] at inv' ⊢
      refine wpOp_head hh hin hC (fun a' w' hw' h' => ?_) (h.2 i hr')
      refine ih _ a' w' (by simpa using hm) ?_ inv' hw' h'
      have hmi : m.toList[i]? = some false := by
        have h3 : i < m.size := by omega
        rw [getD_left (by omega), Array.getD_eq_getD_getElem?, Array.getElem?_eq_getElem h3] at hui
        rw [Array.getElem?_toList, Array.getElem?_eq_getElem h3]
        simpa using hui
      obtain ⟨h4, h5⟩ := List.getElem?_eq_some_iff.1 hmi
      rw [Array.toList_setIfInBounds]
      have h6 : (m.toList.set i true).count false + 1 = m.toList.count false := by
        rw [List.set_eq_take_append_cons_drop, if_pos h4]
        conv => rhs; rw [← List.take_append_drop i m.toList, List.drop_eq_getElem_cons h4, h5]
        rw [List.count_append, List.count_append, List.count_cons, List.count_cons]
        simp
        omega
      omega
/-- The first n operations by OldQ, the others as a list. -/
theorem wp_region_old_tail {id : Nat} {a : Act} {w : World} (n : Nat) (hm : P.follows .mixedOrders = true) (hB : (Region.lexB .any (l.take n).toArray && headOk l n && decide (n < l.length) && Region.sinkB .any l.toArray n && Region.chainB .any l.toArray n && Region.seqB .any l.toArray (l.length - n) n (Array.replicate n true ++ Array.replicate (l.length - n) false)) = true)
    (h : wpQuiet P (l.take n).toArray (OldC w) (fun a' => ∀ w', OldC w w' → wpList P l.toArray Q (l.drop n) a' w') (l.take n) a) : (Code.region id l.toArray true).wp P Q a w := by
  simp only [Bool.and_eq_true, decide_eq_true_eq] at hB
  obtain ⟨⟨⟨⟨⟨hlex, hh⟩, hn⟩, hs⟩, hc⟩, hseq⟩ := hB
  simp only [Region.lexB, Bool.and_eq_true] at hlex
  have htl : (l.take n).length = n := by simp; omega
  have H := wpAnyQ_lex (C := OldC w) (md := .any) (P := P) (ops := (l.take n).toArray) hlex.1 (l.take n) 0 (Array.replicate (l.take n).toArray.size false) a (by simp) (by simpa using hlex.2) h
  refine wp_region_any hm ?_
  have hrep : Array.replicate l.toArray.size false = Array.replicate n false ++ Array.replicate (l.length - n) false := by
    apply Array.ext'
    simp only [Array.toList_replicate, Array.toList_append, List.replicate_append_replicate]
    congr 1
    simp
    omega
  rw [htl] at H
  have hz : (l.take n).toArray.size = n := by simpa using htl
  rw [hz] at H
  have := any_head (P := P) (Q := Q) (C := OldC w) hh hn hs hc hseq n (Array.replicate n false) a w.drew (by simp) (by simp) ?_ ((Below.refl w.heap.size w).drew) H
  · rw [show n + (l.length - n) = l.toArray.size by simp; omega, ← hrep] at this
    exact this
  · rw [← hrep]
    refine ⟨by simp, fun j oj _ hl => ?_, fun t _ ht => ?_⟩
    · rw [getD_replicate_false] at hl
      cases hl
    · exact getD_in (by simpa using ht) (getD_replicate_false _ _)
end
end Go.Proofs.YtflomllfehoedaaDoor
