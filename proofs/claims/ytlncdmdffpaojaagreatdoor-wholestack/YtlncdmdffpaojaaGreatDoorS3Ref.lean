/-
  Contracts of the document's own answers (package shaleref03): Name and Split, byte by byte. Condition: the text's size fits.
-/
import Derived.Test.YtlncdmdffpaojaaGreatDoorPa
import Derived.Test.YtlncdmdffpaojaaGreatDoorStrRow
import Derived.Deep.LoopGhost
import Derived.IntWalk
import Derived.Laws.AppendOwn
namespace Go.Proofs.YtlncdmdffpaojaaGreatDoor
open Go.RowKit

theorem take_at (s : ByteArray) (k : Nat) (h : k < s.size) : s.data.toList.take (k + 1) = s.data.toList.take k ++ [s[k]] := by
  rw [List.take_add_one, at_eq s k h]
  rfl

theorem nb_cases (c : UInt8) :
    (nb c = true ∧ (((97 : Int) ≤ (c.toNat : Int) ∧ (c.toNat : Int) ≤ 122 ∧ (48 : Int) ≤ (c.toNat : Int) ∧ ¬ (c.toNat : Int) ≤ 57 ∧ ((c.toNat : Int) == 45) = false ∧ True)
      ∨ (¬ (97 : Int) ≤ (c.toNat : Int) ∧ (c.toNat : Int) ≤ 122 ∧ (48 : Int) ≤ (c.toNat : Int) ∧ (c.toNat : Int) ≤ 57 ∧ ((c.toNat : Int) == 45) = false ∧ ((c.toNat : Int) == 95) = false)
      ∨ (¬ (97 : Int) ≤ (c.toNat : Int) ∧ (c.toNat : Int) ≤ 122 ∧ ¬ (48 : Int) ≤ (c.toNat : Int) ∧ (c.toNat : Int) ≤ 57 ∧ ((c.toNat : Int) == 45) = true ∧ ((c.toNat : Int) == 95) = false)
      ∨ (¬ (97 : Int) ≤ (c.toNat : Int) ∧ (c.toNat : Int) ≤ 122 ∧ (48 : Int) ≤ (c.toNat : Int) ∧ ¬ (c.toNat : Int) ≤ 57 ∧ ((c.toNat : Int) == 45) = false ∧ ((c.toNat : Int) == 95) = true)))
    ∨ (nb c = false ∧ ((¬ (97 : Int) ≤ (c.toNat : Int) ∧ (c.toNat : Int) ≤ 122 ∧ ¬ (48 : Int) ≤ (c.toNat : Int) ∧ (c.toNat : Int) ≤ 57 ∧ ((c.toNat : Int) == 45) = false ∧ ((c.toNat : Int) == 95) = false)
      ∨ (¬ (97 : Int) ≤ (c.toNat : Int) ∧ (c.toNat : Int) ≤ 122 ∧ (48 : Int) ≤ (c.toNat : Int) ∧ ¬ (c.toNat : Int) ≤ 57 ∧ ((c.toNat : Int) == 45) = false ∧ ((c.toNat : Int) == 95) = false)
      ∨ ((97 : Int) ≤ (c.toNat : Int) ∧ ¬ (c.toNat : Int) ≤ 122 ∧ (48 : Int) ≤ (c.toNat : Int) ∧ ¬ (c.toNat : Int) ≤ 57 ∧ ((c.toNat : Int) == 45) = false ∧ ((c.toNat : Int) == 95) = false))) := by
  cases h : nb c
  · simp only [nb, Bool.or_eq_false_iff, Bool.and_eq_false_iff, decide_eq_false_iff_not, beq_eq_false_iff_ne] at h
    refine .inr ⟨rfl, ?_⟩
    simp only [beq_eq_false_iff_ne]
    omega
  · simp only [nb, Bool.or_eq_true, Bool.and_eq_true, decide_eq_true_eq, beq_iff_eq] at h
    refine .inl ⟨rfl, ?_⟩
    simp only [beq_eq_false_iff_ne, beq_iff_eq, and_true]
    omega

/-- the state of Split's loop: done are the pieces behind us, f is where the piece at hand begins, i where we look -/
structure Spl (w : World) (l : List UInt8) (i f : Nat) (done : List ByteArray) (v : Value) (wx : World) : Prop where
  own : wx.ownsRow w.heap.size 9 1 v done.length (done.map Value.string)
  below : Below w.heap.size w wx
  six : done.length ≤ 6
  names : ∀ y ∈ done, nm y.data.toList = true
  fi : f ≤ i
  f1 : 1 ≤ f
  rest : i ≤ l.length → pcs l = lists done ++ spl (l.drop f) ∧ 47 ∉ (l.drop f).take (i - f)
  gone : ¬ i ≤ l.length → pcs l = lists done

theorem spl_at {l : List UInt8} {i f : Nat} (hf : f ≤ i) (hi : i ≤ l.length) (h0 : 47 ∉ (l.drop f).take (i - f)) (h : i = l.length ∨ l[i]? = some 47) :
    spl (l.drop f) = (l.drop f).take (i - f) :: (if i = l.length then [] else spl (l.drop (i + 1))) := by
  by_cases he : i = l.length
  · rw [if_pos he]
    have e : (l.drop f).take (i - f) = l.drop f := List.take_of_length_le (by rw [List.length_drop]; omega)
    rw [e] at h0 ⊢
    exact spl_noslash _ h0
  · rw [if_neg he]
    have h47 := h.resolve_left he
    have hlt : i < l.length := by omega
    have e : l.drop f = (l.drop f).take (i - f) ++ 47 :: l.drop (i + 1) := by
      have e1 : (l.drop f).drop (i - f) = 47 :: l.drop (i + 1) := by
        rw [List.drop_drop, show f + (i - f) = i by omega]
        rw [List.getElem?_eq_getElem hlt] at h47
        rw [← Option.some.inj h47, List.getElem_cons_drop]
      rw [← e1, List.take_append_drop]
    conv => lhs; rw [e]
    exact spl_cut _ _ h0
theorem not_good {l : List UInt8} {done : List ByteArray} {x : List UInt8} {more : List (List UInt8)} (h : pcs l = lists done ++ x :: more) (hb : nm x = false ∨ done.length = 6) : ¬ isP l := fun hp => by
  rcases hb with hb | hb
  · have := hp.2.2 x (by rw [h]; simp)
    rw [this] at hb
    cases hb
  · have := hp.2.1
    rw [h] at this
    simp [lists] at this
    omega
theorem own_block {w : World} {B : Nat} {e : TypeId} {v : Value} {n : Nat} {xs : List Value} (h : w.ownsRow B e 1 v n xs) : ∀ k, v.ownBlock = some k → B ≤ k := fun k hk => by
  obtain ⟨_, ⟨rfl, _⟩ | ⟨g, cap, cur, rfl, hg, _⟩⟩ := h
  · cases hk
  · simp [Value.ownBlock] at hk
    omega

end Go.Proofs.YtlncdmdffpaojaaGreatDoor
