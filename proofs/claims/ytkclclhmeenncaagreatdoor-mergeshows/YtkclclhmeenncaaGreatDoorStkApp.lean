/-
  A stack of layers that a call made itself, told by a list of lists: append. No condition but that it fits.
-/
import Derived.Test.YtkclclhmeenncaaGreatDoorPc
import Derived.Test.YtkclclhmeenncaaGreatDoorPb
import Derived.Test.YtkclclhmeenncaaGreatDoorPm
namespace Go.Proofs.YtkclclhmeenncaaGreatDoor
open Go.RowKit

/-- A stack's headers: what its cells hold. -/
theorem stk_heads {w : World} {a : Option Addr} {cap : Nat} {S : List (List Ent)} (h : Stk w a cap S) : ∃ hs : List Value, hs.length = S.length ∧ (∀ (j : Nat) u, hs[j]? = some u → ∃ l a' cap', S[j]? = some l ∧ u = .slice a' l.length cap' ∧ Ents w a' cap' l) ∧ (∀ ad, a = some ad → ∀ (j : Nat) u, hs[j]? = some u → w.cell? (ad.add j) = some u) ∧ (a = none → S.length = 0) := by
  rcases h.2 with rfl | ⟨b, off, rfl, _, hc⟩
  · exact ⟨[], rfl, by simp, by simp, fun _ => rfl⟩
  · obtain ⟨hs, h1, h2⟩ := list_of (fun (u : Value) (i : Nat) => w.cell? ⟨b, off + i, none⟩ = some u ∧ ∃ l a' cap', S[i]? = some l ∧ u = .slice a' l.length cap' ∧ Ents w a' cap' l) S.length id fun i hi => by
      obtain ⟨a', cap', h3, h4⟩ := hc i S[i] (List.getElem?_eq_getElem hi)
      exact ⟨_, h3, S[i], a', cap', List.getElem?_eq_getElem hi, rfl, h4⟩
    refine ⟨hs, h1, fun j u hu => (h2 j u hu).2, fun ad e j u hu => ?_, fun e => by cases e⟩
    cases e
    rw [Addr.add_lit]
    exact (h2 j u hu).1
theorem own_stk {w : World} {B : Nat} {v : Value} {xs : List Value} {T : List (List Ent)} (h : w.ownsRow B 23 1 v T.length xs) (hx : ∀ (j : Nat) u, xs[j]? = some u → ∃ l a' cap', T[j]? = some l ∧ u = .slice a' l.length cap' ∧ Ents w a' cap' l) : ∃ a cap, v = .slice a T.length cap ∧ Stk w a cap T := by
  obtain ⟨hl, ⟨rfl, h0⟩ | ⟨g, cap, cur, rfl, _, hbk, hc, _, _, ht⟩⟩ := h
  · exact ⟨none, 0, by rw [h0], by omega, .inl (List.length_eq_zero_iff.1 h0)⟩
  · refine ⟨_, cap, rfl, hc, .inr ⟨g, 0, rfl, (Array.getElem?_eq_some_iff.1 hbk).1, fun j l hj => ?_⟩⟩
    have hlt : j < T.length := (List.getElem?_eq_some_iff.1 hj).1
    have h4 := congrArg (·[j]?) ht
    simp only [List.getElem?_take, Nat.mul_one, if_pos hlt, Array.getElem?_toList] at h4
    obtain ⟨u, hu⟩ : ∃ u, xs[j]? = some u := ⟨_, List.getElem?_eq_getElem (by omega)⟩
    obtain ⟨l', a', cap', h5, rfl, h6⟩ := hx j u hu
    obtain rfl : l' = l := Option.some.inj (h5.symm.trans hj)
    refine ⟨a', cap', ?_, h6⟩
    rw [Lib.cell_of_heap hbk, Nat.zero_add, h4, hu]
theorem infoEnsR : (Tryz.prog.info? 23).map (fun i => (i.zero, i.size, i.bytes)) = some (some (.slice none 0 0), 1, 24) := by kernel_rfl
/-- What a header tells. -/
def HdOf (w : World) (S : List (List Ent)) (hs : List Value) : Prop := hs.length = S.length ∧ ∀ (j : Nat) u, hs[j]? = some u → ∃ l a' cap', S[j]? = some l ∧ u = .slice a' l.length cap' ∧ Ents w a' cap' l
theorem HdOf.below {w w' : World} {S : List (List Ent)} {hs : List Value} (h : HdOf w S hs) (hb : Below w.heap.size w w') : HdOf w' S hs := ⟨h.1, fun j u hu => by
  obtain ⟨l, a', cap', h1, h2, h3⟩ := h.2 j u hu
  exact ⟨l, a', cap', h1, h2, RowN.below h3 hb⟩⟩
theorem HdOf.app {w : World} {S T : List (List Ent)} {hs ht : List Value} (h : HdOf w S hs) (h2 : HdOf w T ht) : HdOf w (S ++ T) (hs ++ ht) := by
  refine ⟨by rw [List.length_append, List.length_append, h.1, h2.1], fun j u hu => ?_⟩
  by_cases hj : j < hs.length
  · rw [List.getElem?_append_left hj] at hu
    rw [List.getElem?_append_left (by rw [← h.1]; exact hj)]
    exact h.2 j u hu
  · rw [List.getElem?_append_right (by omega)] at hu
    rw [List.getElem?_append_right (by rw [← h.1]; omega), ← h.1]
    exact h2.2 _ u hu
theorem HdOf.one {w : World} {S : List (List Ent)} {hs : List Value} (h : HdOf w S hs) : ∀ u ∈ hs, u.oneCell' = true := fun u hu => by
  obtain ⟨j, hj, rfl⟩ := List.mem_iff_getElem.1 hu
  obtain ⟨l, a', cap', _, h9, _⟩ := h.2 j _ (List.getElem?_eq_getElem hj)
  rw [h9]
  rfl
/-- A stack of a call's own, its layers in what was there in W0. -/
def OwnS (W0 w : World) (v : Value) (S : List (List Ent)) : Prop := ∃ hs, w.ownsRow W0.heap.size 23 1 v S.length hs ∧ HdOf W0 S hs
theorem ownS_new (W0 w : World) (hB : W0.heap.size ≤ w.heap.size) : OwnS W0 (w.alloc (.cells #[] 23)) (.slice (some ⟨w.heap.size, 0, none⟩) 0 0) [] :=
  ⟨[], ownsE_new w W0.heap.size w.heap.size rfl hB 23 1, rfl, by simp⟩
theorem ownS_one (W0 w : World) (hB : W0.heap.size ≤ w.heap.size) : OwnS W0 (w.alloc (.cells #[.slice none 0 0] 23)) (.slice (some ⟨w.heap.size, 0, none⟩) 1 1) [[]] := by
  refine ⟨[.slice none 0 0], ⟨rfl, .inr ⟨w.heap.size, 1, #[.slice none 0 0], rfl, hB, heap_alloc_new w _, Nat.le_refl _, by unfold maxLen; omega, rfl, rfl⟩⟩, rfl, fun j u hu => ?_⟩
  obtain ⟨rfl, rfl⟩ : j = 0 ∧ Value.slice none 0 0 = u := by
    cases j with
    | zero => exact ⟨rfl, by simpa using hu⟩
    | succ j => simp at hu
  exact ⟨[], none, 0, rfl, rfl, ents_nil _ _ _⟩
theorem stk_of_ownS {W0 w : World} {v : Value} {S : List (List Ent)} (h : OwnS W0 w v S) (hb : Below W0.heap.size W0 w) : ∃ a cap, v = .slice a S.length cap ∧ Stk w a cap S := by
  obtain ⟨hs, h1, h2⟩ := h
  exact own_stk h1 (h2.below hb).2
theorem OwnS.below {W0 w w' : World} {v : Value} {S : List (List Ent)} (h : OwnS W0 w v S) (hb : Below w.heap.size w w') : OwnS W0 w' v S := by
  obtain ⟨hs, h1, h2⟩ := h
  refine ⟨hs, ?_, h2⟩
  obtain ⟨hl, ⟨rfl, h0⟩ | ⟨g, cap, cur, rfl, hg, hbk, hc⟩⟩ := h1
  · exact ⟨hl, .inl ⟨rfl, h0⟩⟩
  · exact ⟨hl, .inr ⟨g, cap, cur, rfl, hg, (hb.block g (Array.getElem?_eq_some_iff.1 hbk).1).trans hbk, hc⟩⟩
theorem ownS_blk {W0 w : World} {v : Value} {S : List (List Ent)} (h : OwnS W0 w v S) : ∀ k, v.ownBlock = some k → W0.heap.size ≤ k := fun k hk => by
  obtain ⟨hs, ⟨_, ⟨rfl, h2⟩ | ⟨g, cap, cur, rfl, h3, h4, _⟩⟩, _⟩ := h
  · cases hk
  · obtain rfl : g = k := by simpa [Value.ownBlock] using hk
    exact h3
/-- What is appended: headers of layers that lie in W0, their cells in w. -/
structure SrcS (W0 w : World) (aS : Option Addr) (S : List (List Ent)) (hs : List Value) : Prop where
  hd : HdOf W0 S hs
  src : ∀ ad, aS = some ad → ∀ (j : Nat) u, hs[j]? = some u → w.cell? (ad.add j) = some u
  none : aS = none → S.length = 0
theorem src_old {W0 w : World} {aS : Option Addr} {c : Nat} {S : List (List Ent)} (h : Stk W0 aS c S) (hb : Below W0.heap.size W0 w) : ∃ hs, SrcS W0 w aS S hs := by
  obtain ⟨hs, e1, e2, e3, e4⟩ := stk_heads h
  refine ⟨hs, ⟨e1, e2⟩, fun ad e j u hu => ?_, e4⟩
  have h1 := e3 ad e j u hu
  exact (hb.cell (World.block_lt_of_cell? W0 _ h1)).trans h1
theorem src_one {W0 w : World} {a : Option Addr} {cap M : Nat} {l : List Ent} (h : Ents W0 a cap l) (hc : w.cell? ⟨M, 0, Option.none⟩ = some (.slice a l.length cap)) : SrcS W0 w (some ⟨M, 0, Option.none⟩) [l] [.slice a l.length cap] := by
  refine ⟨⟨rfl, fun j u hu => ?_⟩, fun ad e j u hu => ?_, fun e => by cases e⟩
  · obtain ⟨rfl, rfl⟩ : j = 0 ∧ Value.slice a l.length cap = u := by
      cases j with
      | zero => exact ⟨rfl, by simpa using hu⟩
      | succ j => simp at hu
    exact ⟨l, a, cap, rfl, rfl, h⟩
  · obtain ⟨rfl, rfl⟩ : j = 0 ∧ Value.slice a l.length cap = u := by
      cases j with
      | zero => exact ⟨rfl, by simpa using hu⟩
      | succ j => simp at hu
    cases e
    rw [Addr.add_lit]
    exact hc
/-- Layers at the end of a stack that a call made itself. -/
theorem wl_catS {w : World} {ops : Array Oper} {rest : List Oper} {o : Oper} {a : Act} {Q : Exit → Act → World → Prop} (hgd : o.guard = none) (s x : Operand)
    (ho : o.op = .call { callee := .builtin .append, args := #[s, x], argTypes := #[22, 22] }) (W0 : World) (v : Value) (T S : List (List Ent)) (hs : a.eval s = v) (hown : OwnS W0 w v T) (hB : Below W0.heap.size W0 w)
    (aS : Option Addr) (c : Nat) (hx : a.eval x = .slice aS S.length c) (hdS : List Value) (hS : SrcS W0 w aS S hdS) (hl : T.length + S.length ≤ 1000)
    (h : ∀ v' w', OwnS W0 w' v' (T ++ S) → Below W0.heap.size W0 w' → w.grownBy w' v.ownBlock → wpList Tryz.prog ops Q rest (a.put o.dst v') w') : wpList Tryz.prog ops Q (o :: rest) a w := by
  obtain ⟨iE, hi1, hi2, hi3, hi4⟩ := info_parts infoEnsR
  have hbl := ownS_blk hown
  obtain ⟨hsT, o1, o2⟩ := hown
  refine wl_append_any hgd s x 22 ho W0.heap.size 23 iE _ 1 24 Tryz.underlying22 hi1 hi2 hi3 hi4 rfl (by decide) v T.length _ hs o1 aS S.length c hdS hx (by rw [hS.hd.1]; omega) hS.src hS.none hS.hd.one (by unfold maxLen; omega) (by omega) hB.size ?_
  intro v' w' h1 h2
  exact h v' w' ⟨hsT ++ hdS, by rw [List.length_append]; exact h1, o2.app hS.hd⟩ (hB.grown h2 hB.size hbl) h2
end Go.Proofs.YtkclclhmeenncaaGreatDoor
