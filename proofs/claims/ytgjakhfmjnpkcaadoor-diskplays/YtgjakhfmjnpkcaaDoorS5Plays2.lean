/-
  DiskPlays, prepared: the document's disk in a variable of the statement's, beside the landed one in memory. No condition.
-/
import Derived.Test.YtgjakhfmjnpkcaaDoorS5Plays1
namespace Go.Proofs.YtgjakhfmjnpkcaaDoor
open Go.RowKit Go.Maps

theorem RowOf.keepB {α : Type} {f : α → Value} {w w' : World} {a : Option Addr} {cap : Nat} {l : List α} (h : RowOf f w a cap l) (hs : w.heap.size ≤ w'.heap.size) (hb : ∀ ad, a = some ad → l ≠ [] → ad.block < w.heap.size → w'.heap[ad.block]? = w.heap[ad.block]?) : RowOf f w' a cap l := by
  refine ⟨h.1, ?_⟩
  rcases h.2 with h0 | ⟨b, off, rfl, hlt, hc⟩
  · exact .inl h0
  · by_cases h0 : l = []
    · exact .inl h0
    · refine .inr ⟨b, off, rfl, by omega, fun j x hx => ?_⟩
      have hblk : w'.heap[b]? = w.heap[b]? := hb _ rfl h0 hlt
      rw [World.cell?_of_block (w := w) hblk]
      exact hc j x hx
theorem RowN.keepB {α : Type} {C : Nat} {f : α → List Value} {w w' : World} {a : Option Addr} {cap : Nat} {l : List α} (h : RowN C f w a cap l) (hs : w.heap.size ≤ w'.heap.size) (hb : ∀ ad, a = some ad → l ≠ [] → ad.block < w.heap.size → w'.heap[ad.block]? = w.heap[ad.block]?) : RowN C f w' a cap l := by
  refine ⟨h.1, ?_⟩
  rcases h.2 with h0 | ⟨b, off, rfl, hlt, hc⟩
  · exact .inl h0
  · by_cases h0 : l = []
    · exact .inl h0
    · refine .inr ⟨b, off, rfl, by omega, fun j x hx i v hv => ?_⟩
      have hblk : w'.heap[b]? = w.heap[b]? := hb _ rfl h0 hlt
      rw [World.cell?_of_block (w := w) hblk]
      exact hc j x hx i v hv
theorem RowOf.ltB {α : Type} {f : α → Value} {w : World} {a : Option Addr} {cap : Nat} {l : List α} (h : RowOf f w a cap l) {ad : Addr} (e : a = some ad) (hl : l ≠ []) : ad.block < w.heap.size := by
  rcases h.2 with h0 | ⟨b, off, rfl, hlt, _⟩
  · exact absurd h0 hl
  · cases e; exact hlt
theorem RowN.ltB {α : Type} {C : Nat} {f : α → List Value} {w : World} {a : Option Addr} {cap : Nat} {l : List α} (h : RowN C f w a cap l) {ad : Addr} (e : a = some ad) (hl : l ≠ []) : ad.block < w.heap.size := by
  rcases h.2 with h0 | ⟨b, off, rfl, hlt, _⟩
  · exact absurd h0 hl
  · cases e; exact hlt
/-- The document's disk in block Y, none of whose blocks is one of F. -/
structure Rf (w : World) (Y : Nat) (F : Nat → Prop) (size bud : Int) (down : Bool) (R : List RfL) (aA aW aF : Option Addr) (cA cW cF : Nat) : Prop where
  cs : w.rangeAt Y 0 [.int .i64 size, .slice aA R.length cA, .slice aW R.length cW, .slice aF R.length cF, .bool down, .int .i64 bud]
  may : w.there Y 0 6
  ints : RowOf (Value.int .i64) w aA cA (R.map (·.1))
  pages : RowN 64 cellsB w aW cW (R.map (·.2.1))
  bools : RowOf Value.bool w aF cF (R.map (·.2.2))
  free : ¬ F Y
  lt : Y < w.heap.size
  fA : ∀ ad, aA = some ad → R ≠ [] → ¬ F ad.block ∧ ad.block ≠ Y
  fW : ∀ ad, aW = some ad → R ≠ [] → ¬ F ad.block ∧ ad.block ≠ Y
  fF : ∀ ad, aF = some ad → R ≠ [] → ¬ F ad.block ∧ ad.block ≠ Y
section
variable {w w' : World} {Y : Nat} {F F' : Nat → Prop} {size bud : Int} {down : Bool} {R : List RfL} {aA aW aF : Option Addr} {cA cW cF : Nat}
theorem Rf.did (h : Rf w Y F size bud down R aA aW aF cA cW cF) (hd : Did F F' w w') : Rf w' Y F' size bud down R aA aW aF cA cW cF := by
  have hY := hd.block h.lt h.free
  have mp : ∀ {α : Type} {g : RfL → α}, R.map g ≠ [] → R ≠ [] := fun h e => h (by rw [e]; rfl)
  refine ⟨fun j v hv => ?_, fun j hj => ?_, h.ints.keepB hd.fr.size (fun ad e hl hlt => hd.fr.block _ hlt (h.fA ad e (mp hl)).1), h.pages.keepB hd.fr.size (fun ad e hl hlt => hd.fr.block _ hlt (h.fW ad e (mp hl)).1), h.bools.keepB hd.fr.size (fun ad e hl hlt => hd.fr.block _ hlt (h.fF ad e (mp hl)).1), hY.2.1, hY.2.2, fun ad e hR => ?_, fun ad e hR => ?_, fun ad e hR => ?_⟩
  · rw [World.cell?_of_block (w := w) hY.1]; exact h.cs j v hv
  · have := h.may j hj
    exact ⟨by rw [World.cell?_of_block (w := w) hY.1]; exact this.1, by rw [World.frozen?_of_block (w := w) hY.1]; exact this.2⟩
  · exact ⟨(hd.block (h.ints.ltB e (by simpa using hR)) (h.fA ad e hR).1).2.1, (h.fA ad e hR).2⟩
  · exact ⟨(hd.block (h.pages.ltB e (by simpa using hR)) (h.fW ad e hR).1).2.1, (h.fW ad e hR).2⟩
  · exact ⟨(hd.block (h.bools.ltB e (by simpa using hR)) (h.fF ad e hR).1).2.1, (h.fF ad e hR).2⟩
theorem Rf.below (h : Rf w Y F size bud down R aA aW aF cA cW cF) (hb : Below w.heap.size w w') : Rf w' Y F size bud down R aA aW aF cA cW cF := h.did (Did.of_below hb)
theorem Rf.at (h : Rf w Y F size bud down R aA aW aF cA cW cF) {j : Nat} {v : Value} (hv : [Value.int .i64 size, .slice aA R.length cA, .slice aW R.length cW, .slice aF R.length cF, .bool down, .int .i64 bud][j]? = some v) : w.cell? ⟨Y, j, none⟩ = some v := by
  have := h.cs j v hv
  rwa [Nat.zero_add] at this
theorem Rf.fz (h : Rf w Y F size bud down R aA aW aF cA cW cF) {j : Nat} (hj : j < 6) : w.frozen? ⟨Y, j, none⟩ = false := by
  have := (h.may j hj).2
  rwa [Nat.zero_add] at this
/-- The variable is written to as a whole. -/
theorem Rf.store {R' : List RfL} {aA' aW' aF' : Option Addr} {cA' cW' cF' : Nat} {bud' : Int} {down' : Bool} (h : Rf w Y F size bud down R aA aW aF cA cW cF) (hF : ∀ k, F k → k < w.heap.size) (hb : Below w.heap.size w w')
    (h1 : RowOf (Value.int .i64) w' aA' cA' (R'.map (·.1))) (h2 : RowN 64 cellsB w' aW' cW' (R'.map (·.2.1))) (h3 : RowOf Value.bool w' aF' cF' (R'.map (·.2.2))) (g1 : ∀ ad, aA' = some ad → w.heap.size ≤ ad.block) (g2 : ∀ ad, aW' = some ad → w.heap.size ≤ ad.block) (g3 : ∀ ad, aF' = some ad → w.heap.size ≤ ad.block) :
    Rf (w'.setCells Y 0 [.int .i64 size, .slice aA' R'.length cA', .slice aW' R'.length cW', .slice aF' R'.length cF', .bool down', .int .i64 bud']) Y F size bud' down' R' aA' aW' aF' cA' cW' cF' := by
  have hw := h.below hb
  have hlt := h.lt
  have out : ∀ ad : Addr, w.heap.size ≤ ad.block → ¬ F ad.block ∧ ad.block ≠ Y := fun ad hl => ⟨fun e => by have := hF _ e; omega, by omega⟩
  refine ⟨World.rangeAt_setCells_same _ _ _ _ hw.may, World.there_setCells hw.may _ _ _, RowOf.sets (fun ad e => (out ad (g1 ad e)).2) h1 _ _, RowN.sets (fun ad e => (out ad (g2 ad e)).2) h2 _ _, RowOf.sets (fun ad e => (out ad (g3 ad e)).2) h3 _ _, h.free, by rw [size_setCells']; exact hw.lt, fun ad e _ => out ad (g1 ad e), fun ad e _ => out ad (g2 ad e), fun ad e _ => out ad (g3 ad e)⟩
/-- The same rows stored again. -/
theorem Rf.same (h : Rf w Y F size bud down R aA aW aF cA cW cF) : Rf (w.setCells Y 0 [.int .i64 size, .slice aA R.length cA, .slice aW R.length cW, .slice aF R.length cF, .bool down, .int .i64 bud]) Y F size bud down R aA aW aF cA cW cF := by
  have mp : ∀ {α : Type} {g : RfL → α}, R.map g ≠ [] → R ≠ [] := fun h e => h (by rw [e]; rfl)
  have hs := size_setCells' Y [.int .i64 size, .slice aA R.length cA, .slice aW R.length cW, .slice aF R.length cF, .bool down, .int .i64 bud] w 0
  refine ⟨World.rangeAt_setCells_same _ _ _ _ h.may, World.there_setCells h.may _ _ _, h.ints.keepB (Nat.le_of_eq hs.symm) (fun ad e hl _ => heap_setCells_ne _ _ _ _ _ (h.fA ad e (mp hl)).2), h.pages.keepB (Nat.le_of_eq hs.symm) (fun ad e hl _ => heap_setCells_ne _ _ _ _ _ (h.fW ad e (mp hl)).2), h.bools.keepB (Nat.le_of_eq hs.symm) (fun ad e hl _ => heap_setCells_ne _ _ _ _ _ (h.fF ad e (mp hl)).2), h.free, by rw [hs]; exact h.lt, h.fA, h.fW, h.fF⟩
/-- One field is written to. -/
theorem Rf.put (h : Rf w Y F size bud down R aA aW aF cA cW cF) {bud' : Int} {down' : Bool} {j : Nat} {v : Value} (hj : j < 6) (e : [Value.int .i64 size, .slice aA R.length cA, .slice aW R.length cW, .slice aF R.length cF, .bool down, .int .i64 bud].set j v = [Value.int .i64 size, .slice aA R.length cA, .slice aW R.length cW, .slice aF R.length cF, .bool down', .int .i64 bud']) : Rf (w.setCell ⟨Y, j, none⟩ v) Y F size bud' down' R aA aW aF cA cW cF := by
  have mp : ∀ {α : Type} {g : RfL → α}, R.map g ≠ [] → R ≠ [] := fun h e => h (by rw [e]; rfl)
  have hs : (w.setCell ⟨Y, j, none⟩ v).heap.size = w.heap.size := by simp [World.setCell]
  refine ⟨?_, ?_, h.ints.keepB (Nat.le_of_eq hs.symm) (fun ad e hl _ => Below.heap_setCell _ _ _ _ (h.fA ad e (mp hl)).2), h.pages.keepB (Nat.le_of_eq hs.symm) (fun ad e hl _ => Below.heap_setCell _ _ _ _ (h.fW ad e (mp hl)).2), h.bools.keepB (Nat.le_of_eq hs.symm) (fun ad e hl _ => Below.heap_setCell _ _ _ _ (h.fF ad e (mp hl)).2), h.free, by rw [hs]; exact h.lt, h.fA, h.fW, h.fF⟩
  · rw [← e]
    intro i u hu
    rw [Nat.zero_add]
    by_cases ei : i = j
    · subst ei
      rw [List.getElem?_set_self (by simpa using hj)] at hu
      rw [World.cell?_setCell_same _ _ _ (h.at (List.getElem?_eq_getElem (by simpa using hj)))]
      exact hu
    · rw [List.getElem?_set_ne (Ne.symm ei)] at hu
      rw [World.cell?_setCell_other _ _ _ _ (by simp)]
      exact h.at hu
  · intro i hi
    have := h.may i hi
    refine ⟨?_, by simpa using this.2⟩
    by_cases ei : i = j
    · subst ei
      rw [Nat.zero_add, World.cell?_setCell_same _ _ _ (h.at (List.getElem?_eq_getElem (by simpa using hj)))]
      rfl
    · rw [World.cell?_setCell_other _ _ _ _ (by simp)]
      exact this.1
end
/-- The document's Read of the variable's disk. -/
theorem Rf.read {w : World} {Y : Nat} {F : Nat → Prop} {size bud : Int} {down : Bool} {R : List RfL} {aA aW aF : Option Addr} {cA cW cF : Nat} (h : Rf w Y F size bud down R aA aW aF cA cW cF) {D : DskV} (hl : Link D R) (h64 : ∀ y ∈ R, y.2.1.length = 64) (hn : R.length ≤ 1000) (i : Int) :
    Calls Tryd.prog 20 #[.agg #[.int .i64 size, .slice aA R.length cA, .slice aW R.length cW, .slice aF R.length cF, .bool down, .int .i64 bud], .int .i64 i] w fun e w' => e = .returned (pgv (D.read i)) ∧ Below w.heap.size w w' := by
  rw [← hl.read i]
  refine rread_any size bud down aA aW aF cA cW cF R.length (R.map fun y => (y.1, y.2.1)) (by simp) (by omega) (fun x hx => ?_) i w ?_ ?_
  · obtain ⟨y, hy, rfl⟩ := List.mem_map.1 hx
    exact h64 y hy
  · have := h.ints
    rw [List.map_map]
    exact this
  · have := h.pages
    rw [List.map_map]
    exact this
end Go.Proofs.YtgjakhfmjnpkcaaDoor
