/-
  DiskPlays, prepared: the document's Write and Settle of a disk in a variable, beside the landed one. No condition.
-/
import Derived.Test.YtgjakhfmjnpkcaaDoorS5Plays2
namespace Go.Proofs.YtgjakhfmjnpkcaaDoor
open Go.RowKit Go.Maps

def RfE (w : World) (Y : Nat) (F : Nat → Prop) (size bud : Int) (down : Bool) (R : List RfL) : Prop := ∃ aA aW aF cA cW cF, Rf w Y F size bud down R aA aW aF cA cW cF
theorem RfE.did {w w' : World} {Y : Nat} {F F' : Nat → Prop} {size bud : Int} {down : Bool} {R : List RfL} (h : RfE w Y F size bud down R) (hd : Did F F' w w') : RfE w' Y F' size bud down R := by
  obtain ⟨aA, aW, aF, cA, cW, cF, h⟩ := h
  exact ⟨aA, aW, aF, cA, cW, cF, h.did hd⟩
theorem RfE.below {w w' : World} {Y : Nat} {F : Nat → Prop} {size bud : Int} {down : Bool} {R : List RfL} (h : RfE w Y F size bud down R) (hb : Below w.heap.size w w') : RfE w' Y F size bud down R := h.did (Did.of_below hb)
theorem RfE.lt {w : World} {Y : Nat} {F : Nat → Prop} {size bud : Int} {down : Bool} {R : List RfL} (h : RfE w Y F size bud down R) : Y < w.heap.size ∧ ¬ F Y := by
  obtain ⟨aA, aW, aF, cA, cW, cF, h⟩ := h
  exact ⟨h.lt, h.free⟩
theorem mask_one : (0 : Int) ≤ 18446744073709551615 ∧ (18446744073709551615 : Int) ≤ 18446744073709551615 := by decide
/-- Both disks, side by side. -/
def Both (W : World) (b Y : Nat) (size : Int) (D : DskV) (F : Nat → Prop) (R : List RfL) (w : World) : Prop :=
  Ses W W.heap.size F b D w ∧ RfE w Y F size D.budget D.down R ∧ Link D R ∧ D.size = size ∧ W.heap.size ≤ Y ∧ (∀ y ∈ R, y.2.1.length = 64)
theorem link_len {D : DskV} {R : List RfL} (h : Link D R) : D.soft.length ≤ R.length := by
  obtain ⟨FW, rfl, _⟩ := h
  simp
/-- What the document's calls leave to be stored. -/
structure Gives (w w' : World) (Y : Nat) (F : Nat → Prop) (size bud : Int) (down : Bool) (R : List RfL) (v : List Value) : Prop where
  len : v.length = 6
  one : ∀ u ∈ v, u.oneCell' = true
  below : Below w.heap.size w w'
  store : ∀ w'', Below w'.heap.size w' w'' → w''.there Y 0 6 ∧ RfE (w''.setCells Y 0 v) Y F size bud down R
section
variable {w : World} {Y : Nat} {F : Nat → Prop} {size bud : Int} {down : Bool} {R : List RfL} {aA aW aF : Option Addr} {cA cW cF : Nat}
theorem Rf.settle (h : Rf w Y F size bud down R aA aW aF cA cW cF) (hF : ∀ k, F k → k < w.heap.size) (h64 : ∀ y ∈ R, y.2.1.length = 64) (hn : R.length ≤ 1000) (m : Int) (hm : 0 ≤ m ∧ m ≤ 18446744073709551615) :
    Calls Tryd.prog 12 #[.agg #[.int .i64 size, .slice aA R.length cA, .slice aW R.length cW, .slice aF R.length cF, .bool down, .int .i64 bud], .int .u64 m] w fun e w' => ∃ v : List Value, e = .returned (.agg v.toArray) ∧ Gives w w' Y F size bud down ((stl m R).2.map fun z => (z.1, z.2, true)) v := by
  refine (rsettle_any size bud down aA aW aF cA cW cF R.length R rfl hn h64 m hm w h.ints h.pages h.bools).mono ?_
  rintro e w' ⟨aA', aW', aF', cA', cW', cF', rfl, h1, h2, h3, hb, g1, g2, g3⟩
  refine ⟨[.int .i64 size, .slice aA' (stl m R).2.length cA', .slice aW' (stl m R).2.length cW', .slice aF' (stl m R).2.length cF', .bool down, .int .i64 bud], rfl, rfl, by simp [Value.oneCell'], hb, fun w'' hb2 => ⟨?_, aA', aW', aF', cA', cW', cF', ?_⟩⟩
  · exact ((h.below hb).below hb2).may
  · have hb3 : Below w.heap.size w w'' := hb.trans (hb2.mono hb.size)
    have := h.store (R' := (stl m R).2.map fun z => (z.1, z.2, true)) (bud' := bud) (down' := down) hF hb3 (by rw [List.map_map]; exact h1.below hb2) (by rw [List.map_map]; exact h2.below hb2) (by rw [List.map_map]; exact h3.below hb2) g1 g2 g3
    rw [List.length_map] at this
    exact this
theorem Rf.gives_same (h : Rf w Y F size bud down R aA aW aF cA cW cF) {w' : World} (hb : Below w.heap.size w w') : Gives w w' Y F size bud down R [.int .i64 size, .slice aA R.length cA, .slice aW R.length cW, .slice aF R.length cF, .bool down, .int .i64 bud] :=
  ⟨rfl, by simp [Value.oneCell'], hb, fun _ hb2 => ⟨((h.below hb).below hb2).may, aA, aW, aF, cA, cW, cF, ((h.below hb).below hb2).same⟩⟩
theorem Rf.write {D : DskV} (hbd : bud = D.budget) (hdn : down = D.down) (hsz : size = D.size) (hk : D.ok) (h : Rf w Y F size bud down R aA aW aF cA cW cF) (hF : ∀ k, F k → k < w.heap.size) (h64 : ∀ y ∈ R, y.2.1.length = 64) (hn : R.length ≤ 999) (i : Int) (p : PgL) (hp : p.length = 64) :
    Calls Tryd.prog 17 #[.agg #[.int .i64 size, .slice aA R.length cA, .slice aW R.length cW, .slice aF R.length cF, .bool down, .int .i64 bud], .int .i64 i, pgv p] w fun e w' => ∃ v : List Value, e = .returned (.tuple #[.agg v.toArray, .int .i64 (D.refuse i)]) ∧ Gives w w' Y F size (D.wrote i p).budget (D.wrote i p).down (if D.refuse i = 0 then R ++ [(i, p, false)] else R) v := by
  cases hd : down with
  | true =>
    have hw : D.why i = 11 := by unfold DskV.why; rw [← hdn, hd]; rfl
    have hr : D.refuse i = 11 := by unfold DskV.refuse; rw [hw]; rfl
    have hwr : D.wrote i p = D := by unfold DskV.wrote; rw [hr]; rfl
    rw [hr, hwr, if_neg (by decide), ← hbd, ← hdn, hd]
    subst hd
    refine (rwrite_down size bud aA aW aF cA cW cF R.length i p w).mono ?_
    rintro e w' ⟨rfl, hb⟩
    exact ⟨_, rfl, h.gives_same hb⟩
  | false =>
    by_cases h0 : i < 0 ∨ size ≤ i
    · have hw : D.why i = 1 := by unfold DskV.why; rw [← hdn, hd, ← hsz]; exact if_pos h0
      have hr : D.refuse i = 1 := by unfold DskV.refuse; rw [hw]; rfl
      have hwr : D.wrote i p = D := by unfold DskV.wrote; rw [hr]; rfl
      rw [hr, hwr, if_neg (by decide), ← hbd, ← hdn, hd]
      subst hd
      by_cases hi : i < 0
      · refine (rwrite_low size bud aA aW aF cA cW cF R.length i p w hi).mono ?_
        rintro e w' ⟨rfl, hb⟩
        exact ⟨_, rfl, h.gives_same hb⟩
      · refine (rwrite_high size bud aA aW aF cA cW cF R.length i p w hi (by omega)).mono ?_
        rintro e w' ⟨rfl, hb⟩
        exact ⟨_, rfl, h.gives_same hb⟩
    · have hw : D.why i = 0 := by unfold DskV.why; rw [← hdn, hd, ← hsz]; exact if_neg h0
      by_cases hb0 : bud = 0
      · have hr : D.refuse i = 10 := by unfold DskV.refuse; rw [hw, ← hbd, hb0]; rfl
        have hwr : D.wrote i p = D := by unfold DskV.wrote; rw [hr]; rfl
        rw [hr, hwr, if_neg (by decide), ← hbd, ← hdn, hd]
        subst hd hb0
        refine (rwrite_spent size aA aW aF cA cW cF R.length i p w (by omega) (by omega)).mono ?_
        rintro e w' ⟨rfl, hb⟩
        exact ⟨_, rfl, h.gives_same hb⟩
      · have hr : D.refuse i = 0 := by unfold DskV.refuse; rw [hw, ← hbd]; exact if_neg hb0
        have hwr : D.wrote i p = D.write i p := by unfold DskV.wrote; rw [hr]; rfl
        have hbb : (if 0 < bud then bud - 1 else bud) = (D.write i p).budget := by
          show _ = D.bud
          unfold DskV.bud
          rw [← hbd]
          have := hk.bud
          by_cases h1 : bud = -1
          · rw [if_pos h1, if_neg (by omega), h1]
          · rw [if_neg h1, if_pos (by omega)]
        rw [hr, hwr, if_pos rfl, ← hbb, show (D.write i p).down = false from by show D.down = false; rw [← hdn, hd]]
        have hbu : bud ≤ 9223372036854775807 ∧ -1 ≤ bud := by have := hk.bud; omega
        subst hd
        refine (rwrite_done size bud aA aW aF cA cW cF R.length R rfl (by omega) h64 i p hp (by omega) (by omega) hb0 (by omega) w h.ints h.pages h.bools).mono ?_
        rintro e w' ⟨aA', aW', aF', cA', cW', cF', rfl, h1, h2, h3, hb, g1, g2, g3⟩
        refine ⟨[.int .i64 size, .slice aA' (R.length + 1) cA', .slice aW' (R.length + 1) cW', .slice aF' (R.length + 1) cF', .bool false, .int .i64 (if 0 < bud then bud - 1 else bud)], rfl, rfl, by simp [Value.oneCell'], hb, fun w'' hb2 => ⟨((h.below hb).below hb2).may, aA', aW', aF', cA', cW', cF', ?_⟩⟩
        have hb3 : Below w.heap.size w w'' := hb.trans (hb2.mono hb.size)
        have := h.store (R' := R ++ [(i, p, false)]) (bud' := if 0 < bud then bud - 1 else bud) (down' := false) hF hb3 (h1.below hb2) (h2.below hb2) (h3.below hb2) g1 g2 g3
        rw [List.length_append, List.length_singleton] at this
        exact this
end
end Go.Proofs.YtgjakhfmjnpkcaaDoor
