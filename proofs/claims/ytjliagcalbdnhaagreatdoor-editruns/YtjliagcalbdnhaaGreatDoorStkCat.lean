/-
  Layers appended to a stack that a call makes itself, whose layers lie in an older world; what an own stack's append leaves as it was. No condition but that it fits.
-/
import Derived.Test.YtjliagcalbdnhaaGreatDoorPc
namespace Go.Proofs.YtjliagcalbdnhaaGreatDoor
open Go.RowKit

theorem owns_below {w w' : World} {B : Nat} {t : TypeId} {v : Value} {n : Nat} {xs : List Value} (h : w.ownsRow B t 1 v n xs) (hb : Below w.heap.size w w') : w'.ownsRow B t 1 v n xs := by
  obtain ⟨hl, h | ⟨g, cap, cur, e, hg, hbk, hc⟩⟩ := h
  · exact ⟨hl, .inl h⟩
  · exact ⟨hl, .inr ⟨g, cap, cur, e, hg, (hb.block g (Array.getElem?_eq_some_iff.1 hbk).1).trans hbk, hc⟩⟩
theorem ents_grown {w w' : World} {row : Option Nat} {M cap : Nat} {l : List Ent} (h : Ents w (some ⟨M, 0, none⟩) cap l) (hg : w.grownBy w' row) (hM : M < w.heap.size) (hr : some M ≠ row) : Ents w' (some ⟨M, 0, none⟩) cap l := by
  obtain ⟨h1, h2⟩ := h
  refine ⟨h1, h2.imp_right ?_⟩
  rintro ⟨b, off, e, hlt, hc⟩
  cases e
  refine ⟨M, 0, rfl, Nat.lt_of_lt_of_le hlt hg.size, fun j x hx => ?_⟩
  intro i v hv
  rw [World.cell?_of_block (w := w) (hg.block M hM hr)]
  exact hc j x hx i v hv
theorem hd_one {w : World} {a : Option Addr} {cap : Nat} {l : List Ent} (h : Ents w a cap l) : HdOf w [l] [.slice a l.length cap] := ⟨rfl, fun j u hu => by
  obtain ⟨rfl, rfl⟩ : j = 0 ∧ Value.slice a l.length cap = u := by
    cases j with
    | zero => exact ⟨rfl, by simpa using hu⟩
    | succ j => simp at hu
  exact ⟨l, a, cap, rfl, rfl, h⟩⟩
/-- Layers at the end of a stack that a call made itself, whose layers lie in Wc. -/
theorem wl_catB {w : World} {ops : Array Oper} {rest : List Oper} {o : Oper} {a : Act} {Q : Exit → Act → World → Prop} (hgd : o.guard = none) (s x : Operand)
    (ho : o.op = .call { callee := .builtin .append, args := #[s, x], argTypes := #[22, 22] }) (B : Nat) (Wc : World) (v : Value) (T S : List (List Ent)) (hsT : List Value) (hs : a.eval s = v) (hown : w.ownsRow B 27 1 v T.length hsT) (hT : HdOf Wc T hsT) (hB : B ≤ w.heap.size)
    (aS : Option Addr) (c : Nat) (hx : a.eval x = .slice aS S.length c) (hdS : List Value) (hS : SrcS Wc w aS S hdS) (hl : T.length + S.length ≤ 1000)
    (h : ∀ v' w', w'.ownsRow B 27 1 v' (T ++ S).length (hsT ++ hdS) → HdOf Wc (T ++ S) (hsT ++ hdS) → w.grownBy w' v.ownBlock → wpList Tryz.prog ops Q rest (a.put o.dst v') w') : wpList Tryz.prog ops Q (o :: rest) a w := by
  obtain ⟨iE, hi1, hi2, hi3, hi4⟩ := info_parts infoEnsR
  refine wl_append_any hgd s x 22 ho B 27 iE _ 1 24 Tryz.underlying22 hi1 hi2 hi3 hi4 rfl (by decide) v T.length _ hs hown aS S.length c hdS hx (by rw [hS.hd.1]; omega) hS.src hS.none hS.hd.one (by unfold maxLen; omega) (by omega) hB ?_
  intro v' w' h1 h2
  exact h v' w' (by rw [List.length_append]; exact h1) (hT.app hS.hd) h2
end Go.Proofs.YtjliagcalbdnhaaGreatDoor
