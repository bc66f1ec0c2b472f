/-
  Two stacks of layers that a call makes side by side, by append: each keeps its own block. No condition but that it fits.
-/
import Derived.Test.YtkclclhmeenncaaGreatDoorStkApp
import Derived.Test.YtkclclhmeenncaaGreatDoorS13App
import Derived.Test.YtkclclhmeenncaaGreatDoorPc
namespace Go.Proofs.YtkclclhmeenncaaGreatDoor
open Go.RowKit

theorem run_append15 {P : Program} (w : World) (base : Nat) (t ty e : TypeId) (i : TypeInfo) (z : Value) (size bytes : Nat) (ht : P.underlying t = some (.slice e)) (hi : P.info? e = some i) (hz : i.zero = some z)
    (hsize : i.size = size) (hby : i.bytes = bytes) (hzs : z.cells.size = size) (hsz : 0 < size) (v : Value) (n : Nat) (xs : List Value) (hown : w.ownsRow base e size v n xs)
    (aS : Option Addr) (m c : Nat) (news : List Value) (hl : news.length = m * size) (hsrc : ∀ ad, aS = some ad → ∀ j u, news[j]? = some u → w.cell? (ad.add j) = some u) (hnone : aS = none → m = 0) (h1 : ∀ u ∈ news, u.oneCell' = true)
    (h63 : n + m ≤ maxLen) (hbytes : (n + m) * bytes ≤ 140737488355328) (hbase : base ≤ w.heap.size) :
    ∃ v' w', (Builtin.append_ #[t, t] ty #[v, .slice aS m c]).run P w = .ok v' w' ∧ w'.ownsRow base e size v' (n + m) (xs ++ news) ∧ w.grownBy w' v.ownBlock ∧ (∀ g, v'.ownBlock = some g → v.ownBlock = some g ∨ w.heap.size ≤ g) := by
  cases aS with
  | some ad => exact run_append13 (P := P) w base t ty e i z size bytes ht hi hz hsize hby hzs hsz v n xs hown (some ad) m c news hl hsrc (fun h => by cases h) h1 h63 hbytes hbase
  | none =>
    obtain rfl := hnone rfl
    obtain rfl : news = [] := List.eq_nil_of_length_eq_zero (by simpa using hl)
    refine ⟨v, w, ?_, by simpa using hown, grownBy_self _ _, fun g hg => .inl hg⟩
    subst hsize
    rcases hown.2 with ⟨rfl, rfl⟩ | ⟨g, cap, cur, rfl, _, _, hnc, _⟩
    · simp [Builtin.append_, run_underlying ht, sizeOf, typeInfo, hi, Builtin.lenOf, Builtin.firstCells]
    · have hr := run_append_room_src (P := P) w t t ty e i ht hi g 0 n cap (.slice none 0 c) 0 [] (Src.ofNil w ht c) (by omega) (fun j hj => by simp at hj) (fun j hj => by simp at hj)
      simpa [World.setCells] using hr
theorem wl_append15 {P : Program} {w : World} {ops : Array Oper} {rest : List Oper} {o : Oper} {a : Act} {Q : Exit → Act → World → Prop} (hgd : o.guard = none) (s x : Operand) (t : TypeId)
    (ho : o.op = .call { callee := .builtin .append, args := #[s, x], argTypes := #[t, t] })
    (base : Nat) (e : TypeId) (i : TypeInfo) (z : Value) (size bytes : Nat) (ht : P.underlying t = some (.slice e)) (hi : P.info? e = some i) (hz : i.zero = some z)
    (hsize : i.size = size) (hby : i.bytes = bytes) (hzs : z.cells.size = size) (hsz : 0 < size) (v : Value) (n : Nat) (xs : List Value) (hs : a.eval s = v) (hown : w.ownsRow base e size v n xs)
    (aS : Option Addr) (m c : Nat) (news : List Value) (hx : a.eval x = .slice aS m c) (hl : news.length = m * size) (hsrc : ∀ ad, aS = some ad → ∀ j u, news[j]? = some u → w.cell? (ad.add j) = some u) (hnone : aS = none → m = 0) (h1 : ∀ u ∈ news, u.oneCell' = true)
    (h63 : n + m ≤ maxLen) (hbytes : (n + m) * bytes ≤ 140737488355328) (hbase : base ≤ w.heap.size)
    (h : ∀ v' w', w'.ownsRow base e size v' (n + m) (xs ++ news) → w.grownBy w' v.ownBlock → (∀ g, v'.ownBlock = some g → v.ownBlock = some g ∨ w.heap.size ≤ g) → wpList P ops Q rest (a.put o.dst v') w') : wpList P ops Q (o :: rest) a w := by
  refine wpList_plain hgd fun K hK => ?_
  obtain ⟨v', w', hr, h2, h3, h4⟩ := run_append15 (P := P) w base t o.type e i z size bytes ht hi hz hsize hby hzs hsz v n xs hown aS m c news hl hsrc hnone h1 h63 hbytes hbase
  unfold Oper.wp execOp
  simp only [ho, resolve, invoke, builtin, Sem.run_bind, Sem.run_pure, Result.andThen_ok, List.map_toArray, List.map_cons, List.map_nil, hs, hx, hr]
  exact hK _ _ (h v' w' h2 h3 h4)
theorem ownS_lt {W0 w : World} {v : Value} {S : List (List Ent)} (h : OwnS W0 w v S) : ∀ k, v.ownBlock = some k → k < w.heap.size := fun k hk => by
  obtain ⟨hs, ⟨_, ⟨rfl, h2⟩ | ⟨g, cap, cur, rfl, h3, h4, _⟩⟩, _⟩ := h
  · cases hk
  · obtain rfl : g = k := by simpa [Value.ownBlock] using hk
    exact (Array.getElem?_eq_some_iff.1 h4).1
theorem ownS_other {W0 w w' : World} {v : Value} {S : List (List Ent)} {row : Option Nat} (h : OwnS W0 w v S) (hg : w.grownBy w' row) (hr : ∀ g, v.ownBlock = some g → row ≠ some g) : OwnS W0 w' v S := by
  obtain ⟨hs, h1, h2⟩ := h
  refine ⟨hs, ?_, h2⟩
  obtain ⟨hl, ⟨rfl, h0⟩ | ⟨g, cap, cur, rfl, hgB, hbk, hc⟩⟩ := h1
  · exact ⟨hl, .inl ⟨rfl, h0⟩⟩
  · exact ⟨hl, .inr ⟨g, cap, cur, rfl, hgB, (hg.block g (Array.getElem?_eq_some_iff.1 hbk).1 (fun e => hr g rfl e.symm)).trans hbk, hc⟩⟩
/-- Two stacks of the call's own, each in a block of its own. -/
def Own2 (W0 w : World) (v1 : Value) (S1 : List (List Ent)) (v2 : Value) (S2 : List (List Ent)) : Prop := OwnS W0 w v1 S1 ∧ OwnS W0 w v2 S2 ∧ ∀ g, v1.ownBlock = some g → v2.ownBlock ≠ some g
theorem Own2.symm {W0 w : World} {v1 v2 : Value} {S1 S2 : List (List Ent)} (h : Own2 W0 w v1 S1 v2 S2) : Own2 W0 w v2 S2 v1 S1 := ⟨h.2.1, h.1, fun g h1 h2 => h.2.2 g h2 h1⟩
theorem Own2.below {W0 w w' : World} {v1 v2 : Value} {S1 S2 : List (List Ent)} (h : Own2 W0 w v1 S1 v2 S2) (hb : Below w.heap.size w w') : Own2 W0 w' v1 S1 v2 S2 := ⟨h.1.below hb, h.2.1.below hb, h.2.2⟩
theorem own2_new {W0 w : World} {v1 : Value} {S1 : List (List Ent)} (h : OwnS W0 w v1 S1) (hB : W0.heap.size ≤ w.heap.size) : Own2 W0 (w.alloc (.cells #[] 23)) v1 S1 (.slice (some ⟨w.heap.size, 0, none⟩) 0 0) [] :=
  ⟨h.below ((Below.refl _ _).alloc (Nat.le_refl _) _), ownS_new _ _ hB, fun g hg e => by
    have := ownS_lt h g hg
    obtain rfl : w.heap.size = g := by simpa [Value.ownBlock] using e
    omega⟩
theorem src_two {W0 w : World} {a b : Option Addr} {ca cb M : Nat} {l m : List Ent} (h : Ents W0 a ca l) (h2 : Ents W0 b cb m) (hc : w.cell? ⟨M, 0, Option.none⟩ = some (.slice a l.length ca)) (hd : w.cell? ⟨M, 1, Option.none⟩ = some (.slice b m.length cb)) : SrcS W0 w (some ⟨M, 0, Option.none⟩) [l, m] [.slice a l.length ca, .slice b m.length cb] := by
  refine ⟨⟨rfl, fun j u hu => ?_⟩, fun ad e j u hu => ?_, fun e => by cases e⟩
  · match j, hu with
    | 0, hu => obtain rfl : Value.slice a l.length ca = u := by simpa using hu
               exact ⟨l, a, ca, rfl, rfl, h⟩
    | 1, hu => obtain rfl : Value.slice b m.length cb = u := by simpa using hu
               exact ⟨m, b, cb, rfl, rfl, h2⟩
    | j + 2, hu => simp at hu
  · cases e
    match j, hu with
    | 0, hu => obtain rfl : Value.slice a l.length ca = u := by simpa using hu
               rw [Addr.add_lit]
               exact hc
    | 1, hu => obtain rfl : Value.slice b m.length cb = u := by simpa using hu
               rw [Addr.add_lit]
               exact hd
    | j + 2, hu => simp at hu
/-- Layers at the end of the first of the two. -/
theorem wl_cat1 {w : World} {ops : Array Oper} {rest : List Oper} {o : Oper} {a : Act} {Q : Exit → Act → World → Prop} (hgd : o.guard = none) (s x : Operand)
    (ho : o.op = .call { callee := .builtin .append, args := #[s, x], argTypes := #[22, 22] }) (W0 : World) (v v2 : Value) (T T2 S : List (List Ent)) (hs : a.eval s = v) (hown : Own2 W0 w v T v2 T2) (hB : Below W0.heap.size W0 w)
    (aS : Option Addr) (c : Nat) (hx : a.eval x = .slice aS S.length c) (hdS : List Value) (hS : SrcS W0 w aS S hdS) (hl : T.length + S.length ≤ 1000)
    (h : ∀ v' w', Own2 W0 w' v' (T ++ S) v2 T2 → Below W0.heap.size W0 w' → wpList Tryz.prog ops Q rest (a.put o.dst v') w') : wpList Tryz.prog ops Q (o :: rest) a w := by
  obtain ⟨iE, hi1, hi2, hi3, hi4⟩ := info_parts infoEnsR
  obtain ⟨ho1, ho2, hd⟩ := hown
  have hbl := ownS_blk ho1
  have hl2 := ownS_lt ho2
  obtain ⟨hsT, o1, o2⟩ := ho1
  refine wl_append15 hgd s x 22 ho W0.heap.size 23 iE _ 1 24 Tryz.underlying22 hi1 hi2 hi3 hi4 rfl (by decide) v T.length _ hs o1 aS S.length c hdS hx (by rw [hS.hd.1]; omega) hS.src hS.none hS.hd.one (by unfold maxLen; omega) (by omega) hB.size ?_
  intro v' w' h1 h2 h3
  refine h v' w' ⟨⟨hsT ++ hdS, by rw [List.length_append]; exact h1, o2.app hS.hd⟩, ownS_other ho2 h2 (fun g hg e => hd g e hg), fun g hg => ?_⟩ (hB.grown h2 hB.size hbl)
  rcases h3 g hg with h4 | h4
  · exact hd g h4
  · exact fun e => by
      have := hl2 g e
      omega
/-- Of the second. -/
theorem wl_cat2 {w : World} {ops : Array Oper} {rest : List Oper} {o : Oper} {a : Act} {Q : Exit → Act → World → Prop} (hgd : o.guard = none) (s x : Operand)
    (ho : o.op = .call { callee := .builtin .append, args := #[s, x], argTypes := #[22, 22] }) (W0 : World) (v v2 : Value) (T T2 S : List (List Ent)) (hs : a.eval s = v2) (hown : Own2 W0 w v T v2 T2) (hB : Below W0.heap.size W0 w)
    (aS : Option Addr) (c : Nat) (hx : a.eval x = .slice aS S.length c) (hdS : List Value) (hS : SrcS W0 w aS S hdS) (hl : T2.length + S.length ≤ 1000)
    (h : ∀ v' w', Own2 W0 w' v T v' (T2 ++ S) → Below W0.heap.size W0 w' → wpList Tryz.prog ops Q rest (a.put o.dst v') w') : wpList Tryz.prog ops Q (o :: rest) a w :=
  wl_cat1 hgd s x ho W0 v2 v T2 T S hs hown.symm hB aS c hx hdS hS hl fun v' w' h1 h2 => h v' w' h1.symm h2
end Go.Proofs.YtkclclhmeenncaaGreatDoor
