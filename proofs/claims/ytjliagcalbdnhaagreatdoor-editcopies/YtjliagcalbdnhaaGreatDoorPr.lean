/-
  Contracts of the document's own answers (package shaleref03): Name and Split, byte by byte. Condition: the text's size fits.
  The contract of the document's own Split (package shaleref03): a path's names. Condition: the text has at most 100000 bytes.
  Contracts of the document's own Join of names (package shaleref03) and Parent of a path (package shaleref09). Conditions: six names at most, each of eight bytes at most; a path that is not the root's.
-/
import Derived.Test.YtjliagcalbdnhaaGreatDoorPa
import Derived.Test.YtjliagcalbdnhaaGreatDoorStrRow
import Derived.Deep.LoopGhost
import Derived.IntWalk
import Derived.Laws.AppendOwn
import Derived.Test.YtjliagcalbdnhaaGreatDoorPb
import Derived.Lib.Hide
namespace Go.Proofs.YtjliagcalbdnhaaGreatDoor
open Go.RowKit

theorem take_at (s : ByteArray) (k : Nat) (h : k < s.size) : s.data.toList.take (k + 1) = s.data.toList.take k ++ [s[k]] := by
  rw [List.take_add_one, at_eq s k h]
  rfl

theorem nb_cases (c : UInt8) :
    (nb c = true ∧ (((97 : Int) ≤ (c.toNat : Int) ∧ (c.toNat : Int) ≤ 122 ∧ (48 : Int) ≤ (c.toNat : Int) ∧ ¬ (c.toNat : Int) ≤ 57 ∧ ((c.toNat : Int) == 45) = false ∧ True)
      ∨ (¬ (97 : Int) ≤ (c.toNat : Int) ∧ (c.toNat : Int) ≤ 122 ∧ (48 : Int) ≤ (c.toNat : Int) ∧ (c.toNat : Int) ≤ 57 ∧ ((c.toNat : Int) == 45) = false ∧ ((c.toNat : Int) == 95) = false)
      ∨ (¬ (97 : Int) ≤ (c.toNat : Int) ∧ (c.toNat : Int) ≤ 122 ∧ ¬ (48 : Int) ≤ (c.toNat : Int) ∧ (c.toNat : Int) ≤ 57 ∧ ((c.toNat : Int) == 45) = true ∧ ((c.toNat : Int) == 95) = false)
      ∨ (¬ (97 : Int) ≤ (c.toNat : Int) ∧ (c.toNat : Int) ≤ 122 ∧ (48 : Int) ≤ (c.toNat : Int) ∧ ¬ (c.toNat : Int) ≤ 57 ∧ ((c.toNat : Int) == 45) = false ∧ ((c.toNat : Int) == 95) = true)))
    ∨ (nb c = false ∧ ((¬ (97 : Int) ≤ (c.toNat : Int) ∧ (c.toNat : Int) ≤ 122 ∧ ¬ (48 : Int) ≤ (c.toNat : Int) ∧ (c.toNat : Int) ≤ 57 ∧ ((c.toNat : Int) == 45) = false ∧ ((c.toNat : Int) == 95) = false)
      ∨ (¬ (97 : Int) ≤ (c.toNat : Int) ∧ (c.toNat : Int) ≤ 122 ∧ (48 : Int) ≤ (c.toNat : Int) ∧ ¬ (c.toNat : Int) ≤ 57 ∧ ((c.toNat : Int) == 45) = false ∧ ((c.toNat : Int) == 95) = false)
      ∨ ((97 : Int) ≤ (c.toNat : Int) ∧ ¬ (c.toNat : Int) ≤ 122 ∧ (48 : Int) ≤ (c.toNat : Int) ∧ ¬ (c.toNat : Int) ≤ 57 ∧ ((c.toNat : Int) == 45) = false ∧ ((c.toNat : Int) == 95) = false))) := by
  cases h : nb c
  · simp only [nb, Bool.or_eq_false_iff, Bool.and_eq_false_iff, decide_eq_false_iff_not, beq_eq_false_iff_ne] at h
    refine .inr ⟨rfl, ?_⟩
    simp only [beq_eq_false_iff_ne]
    omega
  · simp only [nb, Bool.or_eq_true, Bool.and_eq_true, decide_eq_true_eq, beq_iff_eq] at h
    refine .inl ⟨rfl, ?_⟩
    simp only [beq_eq_false_iff_ne, beq_iff_eq, and_true]
    omega

/-- the state of Split's loop: done are the pieces behind us, f is where the piece at hand begins, i where we look -/
structure Spl (w : World) (l : List UInt8) (i f : Nat) (done : List ByteArray) (v : Value) (wx : World) : Prop where
  own : wx.ownsRow w.heap.size 9 1 v done.length (done.map Value.string)
  below : Below w.heap.size w wx
  six : done.length ≤ 6
  names : ∀ y ∈ done, nm y.data.toList = true
  fi : f ≤ i
  f1 : 1 ≤ f
  rest : i ≤ l.length → pcs l = lists done ++ spl (l.drop f) ∧ 47 ∉ (l.drop f).take (i - f)
  gone : ¬ i ≤ l.length → pcs l = lists done

theorem spl_at {l : List UInt8} {i f : Nat} (hf : f ≤ i) (hi : i ≤ l.length) (h0 : 47 ∉ (l.drop f).take (i - f)) (h : i = l.length ∨ l[i]? = some 47) :
    spl (l.drop f) = (l.drop f).take (i - f) :: (if i = l.length then [] else spl (l.drop (i + 1))) := by
  by_cases he : i = l.length
  · rw [if_pos he]
    have e : (l.drop f).take (i - f) = l.drop f := List.take_of_length_le (by rw [List.length_drop]; omega)
    rw [e] at h0 ⊢
    exact spl_noslash _ h0
  · rw [if_neg he]
    have h47 := h.resolve_left he
    have hlt : i < l.length := by omega
    have e : l.drop f = (l.drop f).take (i - f) ++ 47 :: l.drop (i + 1) := by
      have e1 : (l.drop f).drop (i - f) = 47 :: l.drop (i + 1) := by
        rw [List.drop_drop, show f + (i - f) = i by omega]
        rw [List.getElem?_eq_getElem hlt] at h47
        rw [← Option.some.inj h47, List.getElem_cons_drop]
      rw [← e1, List.take_append_drop]
    conv => lhs; rw [e]
    exact spl_cut _ _ h0
theorem not_good {l : List UInt8} {done : List ByteArray} {x : List UInt8} {more : List (List UInt8)} (h : pcs l = lists done ++ x :: more) (hb : nm x = false ∨ done.length = 6) : ¬ isP l := fun hp => by
  rcases hb with hb | hb
  · have := hp.2.2 x (by rw [h]; simp)
    rw [this] at hb
    cases hb
  · have := hp.2.1
    rw [h] at this
    simp [lists] at this
    omega
theorem own_block {w : World} {B : Nat} {e : TypeId} {v : Value} {n : Nat} {xs : List Value} (h : w.ownsRow B e 1 v n xs) : ∀ k, v.ownBlock = some k → B ≤ k := fun k hk => by
  obtain ⟨_, ⟨rfl, _⟩ | ⟨g, cap, cur, rfl, hg, _⟩⟩ := h
  · cases hk
  · simp [Value.ownBlock] at hk
    omega

end Go.Proofs.YtjliagcalbdnhaaGreatDoor

namespace Go.Proofs.YtjliagcalbdnhaaGreatDoor
open Go.RowKit

/-- a path's names; none of what is no path -/
def names (p : ByteArray) : List ByteArray := if isP p.data.toList then prts p else []
theorem names_pos {p : ByteArray} (h : isP p.data.toList) : names p = prts p := if_pos h
theorem names_neg {p : ByteArray} (h : ¬ isP p.data.toList) : names p = [] := if_neg h
theorem row_nil (w : World) (a : Option Addr) (cap : Nat) : Row w a cap [] := ⟨by simp, .inl rfl⟩
theorem names_len (p : ByteArray) : (names p).length ≤ 6 := by
  by_cases h : isP p.data.toList
  · rw [names_pos h]
    simpa [prts] using h.2.1
  · rw [names_neg h]
    simp

end Go.Proofs.YtjliagcalbdnhaaGreatDoor

namespace Go.Proofs.YtjliagcalbdnhaaGreatDoor
open Go.RowKit

theorem Row.at9 {w w' : World} {a : Option Addr} {cap : Nat} {ns : List ByteArray} (h : Row w a cap ns) (hb : Below w.heap.size w w') {k : Nat} (hk : k < ns.length) : ∃ b off, a = some ⟨b, off, none⟩ ∧ w'.cell? ⟨b, off + k, none⟩ = some (.string ns[k]) := by
  rcases h.2 with h0 | ⟨b, off, rfl, hlt, hc⟩
  · rw [h0] at hk; simp at hk
  · exact ⟨b, off, rfl, (hb.cell (p := ⟨b, off + k, none⟩) hlt).trans (hc k ns[k] (List.getElem?_eq_getElem hk))⟩
theorem lists_take (ns : List ByteArray) (k : Nat) (h : k < ns.length) : jn (lists (ns.take (k + 1))) = jn (lists (ns.take k)) ++ (47 :: ns[k].data.toList) := by
  rw [List.take_add_one, List.getElem?_eq_getElem h, lists_append, jn_append]
  simp [lists, jn]
theorem row_init {w : World} {a : Option Addr} {cap : Nat} {ns : List ByteArray} (h : Row w a cap ns) : Row w a cap ns.dropLast := by
  obtain ⟨h1, h2⟩ := h
  refine ⟨by simp; omega, ?_⟩
  rcases h2 with rfl | ⟨b, off, rfl, hlt, hc⟩
  · exact .inl rfl
  · exact .inr ⟨b, off, rfl, hlt, fun j x hx => hc j x (by
      rw [List.getElem?_dropLast] at hx
      split at hx
      · exact hx
      · cases hx)⟩
theorem lists_prts9 (p : ByteArray) : lists (prts p) = pcs p.data.toList := by
  unfold lists prts
  rw [List.map_map]
  conv => rhs; rw [← List.map_id (pcs p.data.toList)]
  apply List.map_congr_left
  intro x _
  exact bs_list x
end Go.Proofs.YtjliagcalbdnhaaGreatDoor
