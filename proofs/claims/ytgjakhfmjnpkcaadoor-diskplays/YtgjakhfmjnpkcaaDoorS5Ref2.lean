/-
  The contract of the document's own Write of a disk (package shaleref05). Condition: the disk's lists lie in memory.
-/
import Derived.Test.YtgjakhfmjnpkcaaDoorS5Ref
import Derived.Deep.RegionLaw
import Derived.Deep.DrawnRows
import Derived.Deep.Cut
import Derived.Deep.AppendLies
import Derived.Maps.AppendAt
import Derived.RangeFuncBox
import Derived.Test.YtgjakhfmjnpkcaaDoorAppendAny
namespace Go.Proofs.YtgjakhfmjnpkcaaDoor
open Go.RowKit

theorem pgv_cells (p : List UInt8) : (pgv p).cells = (cellsB p).toArray := rfl

set_option maxRecDepth 10000 in
set_option maxHeartbeats 2000000 in
theorem rwrite_down (size bud : Int) (aA aW aF : Option Addr) (cA cW cF n : Nat) (i : Int) (p : List UInt8) (w : World) :
    Calls Tryd.prog 17 #[.agg #[.int .i64 size, .slice aA n cA, .slice aW n cW, .slice aF n cF, .bool true, .int .i64 bud], .int .i64 i, pgv p] w fun e w' => e = .returned (.tuple #[.agg #[.int .i64 size, .slice aA n cA, .slice aW n cW, .slice aF n cF, .bool true, .int .i64 bud], .int .i64 11]) ∧ Below w.heap.size w w' := by
  go_enter Tryd.func17, Tryd.ntmps17
  go_wp2
  refine bodyPost_ret_by (v := .tuple #[.agg #[.int .i64 size, .slice aA n cA, .slice aW n cW, .slice aF n cF, .bool true, .int .i64 bud], .int .i64 11]) (by simp [results, Tryd.f17, go_sem]) rfl ?_
  exact ⟨rfl, (((Below.refl _ _).alloc (Nat.le_refl _) _).alloc (by simp) _).alloc (by simp; omega) _⟩

set_option maxRecDepth 10000 in
set_option maxHeartbeats 2000000 in
theorem rwrite_low (size bud : Int) (aA aW aF : Option Addr) (cA cW cF n : Nat) (i : Int) (p : List UInt8) (w : World) (h : i < 0) :
    Calls Tryd.prog 17 #[.agg #[.int .i64 size, .slice aA n cA, .slice aW n cW, .slice aF n cF, .bool false, .int .i64 bud], .int .i64 i, pgv p] w fun e w' => e = .returned (.tuple #[.agg #[.int .i64 size, .slice aA n cA, .slice aW n cW, .slice aF n cF, .bool false, .int .i64 bud], .int .i64 1]) ∧ Below w.heap.size w w' := by
  go_enter Tryd.func17, Tryd.ntmps17
  go_wp2
  refine bodyPost_ret_by (v := .tuple #[.agg #[.int .i64 size, .slice aA n cA, .slice aW n cW, .slice aF n cF, .bool false, .int .i64 bud], .int .i64 1]) (by simp [results, Tryd.f17, go_sem]) rfl ?_
  exact ⟨rfl, (((Below.refl _ _).alloc (Nat.le_refl _) _).alloc (by simp) _).alloc (by simp; omega) _⟩

set_option maxRecDepth 10000 in
set_option maxHeartbeats 2000000 in
theorem rwrite_high (size bud : Int) (aA aW aF : Option Addr) (cA cW cF n : Nat) (i : Int) (p : List UInt8) (w : World) (h0 : ¬ i < 0) (h : size ≤ i) :
    Calls Tryd.prog 17 #[.agg #[.int .i64 size, .slice aA n cA, .slice aW n cW, .slice aF n cF, .bool false, .int .i64 bud], .int .i64 i, pgv p] w fun e w' => e = .returned (.tuple #[.agg #[.int .i64 size, .slice aA n cA, .slice aW n cW, .slice aF n cF, .bool false, .int .i64 bud], .int .i64 1]) ∧ Below w.heap.size w w' := by
  go_enter Tryd.func17, Tryd.ntmps17
  go_wp2
  refine bodyPost_ret_by (v := .tuple #[.agg #[.int .i64 size, .slice aA n cA, .slice aW n cW, .slice aF n cF, .bool false, .int .i64 bud], .int .i64 1]) (by simp [results, Tryd.f17, go_sem]) rfl ?_
  exact ⟨rfl, (((Below.refl _ _).alloc (Nat.le_refl _) _).alloc (by simp) _).alloc (by simp; omega) _⟩

set_option maxRecDepth 10000 in
set_option maxHeartbeats 2000000 in
theorem rwrite_spent (size : Int) (aA aW aF : Option Addr) (cA cW cF n : Nat) (i : Int) (p : List UInt8) (w : World) (h0 : ¬ i < 0) (h : ¬ size ≤ i) :
    Calls Tryd.prog 17 #[.agg #[.int .i64 size, .slice aA n cA, .slice aW n cW, .slice aF n cF, .bool false, .int .i64 0], .int .i64 i, pgv p] w fun e w' => e = .returned (.tuple #[.agg #[.int .i64 size, .slice aA n cA, .slice aW n cW, .slice aF n cF, .bool false, .int .i64 0], .int .i64 10]) ∧ Below w.heap.size w w' := by
  go_enter Tryd.func17, Tryd.ntmps17
  go_wp2
  refine bodyPost_ret_by (v := .tuple #[.agg #[.int .i64 size, .slice aA n cA, .slice aW n cW, .slice aF n cF, .bool false, .int .i64 0], .int .i64 10]) (by simp [results, Tryd.f17, go_sem]) rfl ?_
  exact ⟨rfl, (((Below.refl _ _).alloc (Nat.le_refl _) _).alloc (by simp) _).alloc (by simp; omega) _⟩

theorem infoI : (Tryd.prog.info? 3).map (fun i => (i.zero, i.size, i.bytes)) = some (some (.int .i64 0), 1, 8) := by kernel_rfl
theorem infoBl : (Tryd.prog.info? 4).map (fun i => (i.zero, i.size, i.bytes)) = some (some (.bool false), 1, 1) := by kernel_rfl
theorem infoAr : (Tryd.prog.info? 36).map (fun i => (i.zero, i.size, i.bytes)) = some (some (pgv zpg), 64, 64) := by kernel_rfl
theorem owns_empty (w : World) (B : Nat) (hB : B ≤ w.heap.size) (e : TypeId) (size : Nat) : (w.alloc (.cells #[] e)).ownsRow B e size (.slice (some ⟨w.heap.size, 0, none⟩) 0 0) 0 [] :=
  ⟨by simp, .inr ⟨w.heap.size, 0, #[], rfl, hB, heap_alloc_new w _, Nat.le_refl _, by unfold maxLen; omega, by simp, by simp⟩⟩

theorem owns_new (w : World) (B N : Nat) (hN : N = w.heap.size) (hB : B ≤ N) (e : TypeId) (size : Nat) : (w.alloc (.cells #[] e)).ownsRow B e size (.slice (some ⟨N, 0, none⟩) 0 0) 0 [] := by
  subst hN
  exact owns_empty w B hB e size
theorem range_box (w : World) (N : Nat) (hN : N = w.heap.size) (l : List UInt8) (t : TypeId) : (w.alloc (.cells (cellsB l).toArray t)).rangeAt N 0 (cellsB l) := fun j v hv => by
  rw [World.cell?_alloc_at _ _ _ _ hN, Nat.zero_add]
  simpa using hv
theorem fold_set : ∀ (l : List Value) (pre rest : List Value), rest.length = l.length → List.foldl (fun (cs : Array Value) (x : Value × Nat) => cs.setIfInBounds x.snd x.fst) (pre ++ rest).toArray (l.zipIdx pre.length) = (pre ++ l).toArray
  | [], pre, rest, h => by
    obtain rfl : rest = [] := List.eq_nil_of_length_eq_zero (by simpa using h)
    rfl
  | v :: l, pre, [], h => by simp at h
  | v :: l, pre, r :: rest, h => by
    rw [List.zipIdx_cons, List.foldl_cons]
    have e : ((pre ++ r :: rest).toArray.setIfInBounds pre.length v) = ((pre ++ [v]) ++ rest).toArray := by
      apply Array.ext'
      simp
    have := fold_set l (pre ++ [v]) rest (by simpa using h)
    rw [List.length_append, List.length_singleton] at this
    rw [e, this]
    simp
theorem range_fold (w : World) (N : Nat) (hN : N = w.heap.size) (l : List UInt8) (z : List Value) (hz : z.length = (cellsB l).length) (t : TypeId) : (w.alloc (.cells (List.foldl (fun (cs : Array Value) (x : Value × Nat) => cs.setIfInBounds x.snd x.fst) z.toArray (cellsB l).zipIdx) t)).rangeAt N 0 (cellsB l) := by
  have := fold_set (cellsB l) [] z hz
  simp only [List.nil_append, List.length_nil] at this
  rw [this]
  exact range_box w N hN l t
/-- What the drawn statement of Write holds on to. -/
def Hold (w3 w' : World) (x : Nat) (v : Value) (p : List UInt8) : Prop := Below (x + 3) w3 w' ∧ w'.cell? ⟨x, 2, none⟩ = some v ∧ w'.frozen? ⟨x, 2, none⟩ = false ∧ w'.rangeAt (x + 1) 0 (cellsB p)
theorem hold_of {w3 w' : World} {x : Nat} {v : Value} {p : List UInt8} (c : w3.cell? ⟨x, 2, none⟩ = some v) (f : w3.frozen? ⟨x, 2, none⟩ = false) (r : w3.rangeAt (x + 1) 0 (cellsB p)) (h : Below (x + 3) w3 w') :
    Below (x + 3) w3 w' ∧ w'.cell? ⟨x, 2, none⟩ = some v ∧ w'.frozen? ⟨x, 2, none⟩ = false ∧ w'.rangeAt (x + 1) 0 (cellsB p) :=
  ⟨h, (h.cell (p := ⟨x, 2, none⟩) (by simp)).trans c, (h.frozen (p := ⟨x, 2, none⟩) (by simp)).trans f, rangeAt_below r h (by omega)⟩
theorem src_of {w : World} {N : Nat} {cs : List Value} (h : w.rangeAt N 0 cs) : ∀ j u, cs[j]? = some u → w.cell? ((⟨N, 0, none⟩ : Addr).add j) = some u := fun j u hu => by
  rw [Addr.add_mid]
  exact h j u hu
theorem range_set {w : World} {b o : Nat} {cs : List Value} (h : w.rangeAt b o cs) {a : Addr} (v : Value) (hne : b ≠ a.block) : (w.setCell a v).rangeAt b o cs := fun j u hu => by
  rw [World.cell?_setCell_other _ _ _ _ (fun e => hne (by rw [e]))]
  exact h j u hu
theorem range_drew {w : World} {N : Nat} {cs : List Value} (h : w.rangeAt N 0 cs) : w.drew.rangeAt N 0 cs := h
theorem range_alloc {w : World} {N : Nat} {cs : List Value} {o : Obj} (h : w.rangeAt N 0 cs) (hN : N < w.heap.size) : (w.alloc o).rangeAt N 0 cs := fun j v hv => (World.cell?_alloc_past _ _ _ hN).trans (h j v hv)
theorem grown_step {w3 W w' : World} {B : Nat} {row : Option Nat} {G : Prop} (h : Below B w3 W) (hg : W.grownBy w' row) (hB : B ≤ W.heap.size) (hr : ∀ k, row = some k → B ≤ k) (k : Below B w3 w' → B ≤ w'.heap.size → G) : G :=
  k (h.grown hg hB hr) (Nat.le_trans hB hg.size)
theorem zpg_cells : (pgv zpg).cells.size = 64 := by rw [pgv_cells, List.size_toArray, cellsB_len, zpg_len]
theorem range_grown {w w' : World} {row : Option Nat} {N : Nat} {cs : List Value} (h : w.rangeAt N 0 cs) (hg : w.grownBy w' row) (hN : N < w.heap.size) (hr : some N ≠ row) : w'.rangeAt N 0 cs := fun j u hu => by
  rw [World.cell?_of_block (w := w) (hg.block N hN hr)]
  exact h j u hu
theorem range_step {W w' : World} {row : Option Nat} {N : Nat} {cs : List Value} {G : Prop} (h : W.rangeAt N 0 cs) (hg : W.grownBy w' row) (hN : N < W.heap.size) (hr : some N ≠ row) (k : w'.rangeAt N 0 cs → G) : G := k (range_grown h hg hN hr)
theorem src_some {w : World} {N : Nat} {cs : List Value} {ad : Addr} (e : some (⟨N, 0, none⟩ : Addr) = some ad) (h : w.rangeAt N 0 cs) : ∀ j u, cs[j]? = some u → w.cell? (ad.add j) = some u := by
  cases e
  exact src_of h
theorem rdSize : (Tryd.prog.info? 35).map (·.size) = some 6 := by kernel_rfl
/-- What Write meets in memory: the disk's own cells, the page's, the answer's. -/
structure WSt (w wk : World) (x : Nat) (cs : List Value) (p : List UInt8) : Prop where
  below : Below x w wk
  size : x + 3 ≤ wk.heap.size
  disk : wk.rangeAt x 0 cs
  may : wk.there x 0 6
  page : wk.rangeAt (x + 1) 0 (cellsB p)
  out : wk.there (x + 1 + 1) 0 6
theorem WSt.step {w wk wl : World} {x : Nat} {cs : List Value} {p : List UInt8} (h : WSt w wk x cs p) (hb : Below (x + 3) wk wl) : WSt w wl x cs p :=
  ⟨h.below.trans (hb.mono (by omega)), Nat.le_trans h.size hb.size, rangeAt_below h.disk hb (by omega), there_below h.may hb (by omega), rangeAt_below h.page hb (by omega), there_below h.out hb (by omega)⟩
theorem WSt.at {w wk : World} {x : Nat} {cs : List Value} {p : List UInt8} (h : WSt w wk x cs p) {j : Nat} {v : Value} (hv : cs[j]? = some v) : wk.cell? ⟨x, j, none⟩ = some v := by
  have := h.disk j v hv
  rwa [Nat.zero_add] at this
theorem WSt.frozen {w wk : World} {x : Nat} {cs : List Value} {p : List UInt8} (h : WSt w wk x cs p) {j : Nat} (hj : j < 6) : wk.frozen? ⟨x, j, none⟩ = false := by
  have := (h.may j hj).2
  rwa [Nat.zero_add] at this
theorem WSt.put {w wk : World} {x : Nat} {cs : List Value} {p : List UInt8} (h : WSt w wk x cs p) (j : Nat) (hj : j < cs.length) (v : Value) : WSt w (wk.setCell ⟨x, j, none⟩ v) x (cs.set j v) p := by
  refine ⟨h.below.setCell (p := ⟨x, j, none⟩) (Nat.le_refl _) v, by simpa [World.setCell] using h.size, fun i u hu => ?_, fun i hi => ⟨?_, ?_⟩, fun i u hu => ?_, fun i hi => ⟨?_, ?_⟩⟩
  · rw [Nat.zero_add]
    by_cases e : i = j
    · subst e
      rw [List.getElem?_set_self hj] at hu
      rw [World.cell?_setCell_same _ _ _ (h.at (List.getElem?_eq_getElem hj))]
      exact hu
    · rw [List.getElem?_set_ne (Ne.symm e)] at hu
      rw [World.cell?_setCell_other _ _ _ _ (by simp)]
      exact h.at hu
  · by_cases e : i = j
    · subst e
      rw [Nat.zero_add, World.cell?_setCell_same _ _ _ (h.at (List.getElem?_eq_getElem hj))]
      rfl
    · rw [World.cell?_setCell_other _ _ _ _ (by simp)]
      exact (h.may i hi).1
  · simpa using (h.may i hi).2
  · rw [World.cell?_setCell_other _ _ _ _ (by simp)]
    exact h.page i u hu
  · rw [World.cell?_setCell_other _ _ _ _ (by simp)]
    exact (h.out i hi).1
  · simpa using (h.out i hi).2

attribute [local go_sem ↓] Go.wp_at_zero Go.wp_at_succ ldw_ar stw_ar
attribute [local go_sem] isPgV_ptr pgAtV_ptr thereV_ptr setV_ptr cellsV_agg
set_option maxRecDepth 10000 in
set_option maxHeartbeats 8000000 in
theorem rwrite_done (size bud : Int) (aA aW aF : Option Addr) (cA cW cF n : Nat) (L : List (Int × List UInt8 × Bool)) (hn : L.length = n) (hnm : n ≤ 1000) (h64 : ∀ y ∈ L, y.2.1.length = 64) (i : Int) (p : List UInt8) (hp : p.length = 64) (h0 : ¬ i < 0) (h1 : ¬ size ≤ i) (hb0 : ¬ bud = 0) (hb1 : -9223372036854775808 ≤ bud ∧ bud ≤ 9223372036854775807)
    (w : World) (hrA : RowOf (Value.int .i64) w aA cA (L.map (·.1))) (hrW : RowN 64 cellsB w aW cW (L.map (·.2.1))) (hrF : RowOf Value.bool w aF cF (L.map (·.2.2))) :
    Calls Tryd.prog 17 #[.agg #[.int .i64 size, .slice aA n cA, .slice aW n cW, .slice aF n cF, .bool false, .int .i64 bud], .int .i64 i, pgv p] w fun e w' =>
      ∃ aA' aW' aF' cA' cW' cF', e = .returned (.tuple #[.agg #[.int .i64 size, .slice aA' (n + 1) cA', .slice aW' (n + 1) cW', .slice aF' (n + 1) cF', .bool false, .int .i64 (if 0 < bud then bud - 1 else bud)], .int .i64 0]) ∧
        RowOf (Value.int .i64) w' aA' cA' ((L ++ [(i, p, false)]).map (·.1)) ∧ RowN 64 cellsB w' aW' cW' ((L ++ [(i, p, false)]).map (·.2.1)) ∧ RowOf Value.bool w' aF' cF' ((L ++ [(i, p, false)]).map (·.2.2)) ∧ Below w.heap.size w w' ∧ (∀ ad, aA' = some ad → w.heap.size ≤ ad.block) ∧ (∀ ad, aW' = some ad → w.heap.size ≤ ad.block) ∧ (∀ ad, aF' = some ad → w.heap.size ≤ ad.block) := by
  obtain ⟨iI, hiI, hI0, hI1, hI2⟩ := info_parts infoI
  obtain ⟨iB, hiB, hB0, hB1, hB2⟩ := info_parts infoBl
  obtain ⟨iA, hiA, hA0, hA1, hA2⟩ := info_parts infoAr
  have KI := Lib.hid (And.intro hiI (And.intro hI0 (And.intro hI1 hI2)))
  have KB := Lib.hid (And.intro hiB (And.intro hB0 (And.intro hB1 hB2)))
  have KA := Lib.hid (And.intro hiA (And.intro hA0 (And.intro hA1 hA2)))
  clear hiI hI0 hI1 hI2 hiB hB0 hB1 hB2 hiA hA0 hA1 hA2
  have HN := Lib.hid hn
  have H64 := Lib.hid h64
  have HA := Lib.hid hrA
  have HW := Lib.hid hrW
  have HF := Lib.hid hrF
  have HP := Lib.hid hp
  have hz : (bud == 0) = false := by simp [hb0]
  clear hn h64 hrA hrW hrF hp
  obtain ⟨x, hx⟩ : ∃ x, x = w.heap.size := ⟨_, rfl⟩
  have HX := Lib.hid hx
  clear hx
  obtain ⟨bud2, hbud⟩ : ∃ b, (if 0 < bud then bud - 1 else bud) = b := ⟨_, rfl⟩
  rw [hbud]
  have HBD := Lib.hid hbud
  have hsplit : ((0 < bud ∧ bud - 1 = bud2) ∨ (¬ 0 < bud ∧ bud = bud2)) := by
    by_cases hpos : 0 < bud
    · rw [if_pos hpos] at hbud; exact .inl ⟨hpos, hbud⟩
    · rw [if_neg hpos] at hbud; exact .inr ⟨hpos, hbud⟩
  clear hb0 hbud
  rcases hsplit with ⟨hpos, hbud⟩ | ⟨hpos, hbud⟩
  all_goals
    try (have hneg : ¬ 0 < bud := hpos; clear hneg; subst hbud; obtain ⟨bud2, rfl⟩ : ∃ b, b = bud := ⟨_, rfl⟩)
    go_enter Tryd.func17, Tryd.ntmps17
    go_wp2_with (at_builtin; refine Stopped.go ?_)
    clear hz hb1 hpos
    try clear hbud
    unfold Stopped
    obtain ⟨W0, hW0⟩ : ∃ W0, W0 = (((w.alloc (.cells #[.int .i64 size, .slice aA n cA, .slice aW n cW, .slice aF n cF, .bool false, .int .i64 bud2] 35)).alloc (.cells (cellsB p).toArray 36)).alloc (.cells #[.int .i64 0, .slice none 0 0, .slice none 0 0, .slice none 0 0, .bool false, .int .i64 0] 35)) := ⟨_, rfl⟩
    rw [← hW0, ← HX.out]
    have hsz : W0.heap.size = x + 1 + 1 + 1 := by rw [hW0, HX.out]; simp
    have hst : WSt w W0 x [.int .i64 size, .slice aA n cA, .slice aW n cW, .slice aF n cF, .bool false, .int .i64 bud2] p := by
      have b1 : Below x w W0 := by
        rw [hW0, HX.out]
        exact (((Below.refl _ _).alloc (Nat.le_refl _) _).alloc (by simp) _).alloc (by simp; omega) _
      refine ⟨b1, by omega, fun j v hv => ?_, fun j hj => ?_, fun j v hv => ?_, fun j hj => ?_⟩
      · rw [hW0, HX.out, World.cell?_alloc_past _ _ _ (by simp; omega), World.cell?_alloc_past _ _ _ (by simp), World.cell?_alloc_at _ _ _ _ rfl, Nat.zero_add]
        simpa using hv
      · rw [hW0, HX.out, World.cell?_alloc_past _ _ _ (by simp; omega), World.cell?_alloc_past _ _ _ (by simp), World.cell?_alloc_at _ _ _ _ rfl, World.frozen?_alloc_past _ _ _ (by simp; omega), World.frozen?_alloc_past _ _ _ (by simp), World.frozen?_alloc_at _ _ _ _ rfl, Nat.zero_add]
        exact ⟨by rw [Array.getElem?_eq_getElem (by simpa using hj)]; rfl, rfl⟩
      · rw [hW0, HX.out, World.cell?_alloc_past _ _ _ (by simp), World.cell?_alloc_at _ _ _ _ (by simp), Nat.zero_add]
        simpa using hv
      · rw [hW0, HX.out, World.cell?_alloc_at _ _ _ _ (by simp), World.frozen?_alloc_at _ _ _ _ (by simp), Nat.zero_add]
        exact ⟨by rw [Array.getElem?_eq_getElem (by simpa using hj)]; rfl, rfl⟩
    have HST := Lib.hid hst
    have hown0 := owns_empty W0 (x + 3) (by omega) 3 1
    rw [hsz] at hown0
    have hbz : Below (x + 3) W0 (W0.alloc (.cells #[] 3)) := (Below.refl _ _).alloc (by omega) _
    have hsrc := (HA.out.below (HX.out ▸ (hst.below.trans (hbz.mono (by omega))))).src
    clear hst
    refine wl_append_any (by rfl) _ _ 31 (by rfl) (x + 3) 3 iI (.int .i64 0) 1 8 Tryd.underlying31 KI.out.1 KI.out.2.1 KI.out.2.2.1 KI.out.2.2.2 rfl (by decide) _ 0 [] (by rfl) hown0 aA n cA _ (by rfl) ?l1 hsrc.1 ?n1 ?o1 ?m1 ?b1 ?z1 ?_
    case l1 => have := HN.out; simp; omega
    case n1 => intro h; have h2 := hsrc.2 h; rw [List.length_map] at h2; have := HN.out; omega
    case o1 => intro u hu; simp at hu; obtain ⟨_, _, rfl⟩ := hu; rfl
    case m1 => unfold maxLen; omega
    case b1 => omega
    case z1 => simp; omega
    intro v1 w1 ho1 hg1
    have hb1 : Below (x + 3) W0 w1 := hbz.grown hg1 (by simp; omega) (fun k hk => by simp [Value.ownBlock] at hk; omega)
    have HB1 := Lib.hid hb1
    have HST1 := Lib.hid (HST.out.step hb1)
    have HO1 := Lib.hid ho1
    clear hsrc hown0 hbz ho1 hg1 hb1 HST
    go_wp2_with (at_builtin; refine Stopped.go ?_)
    unfold Stopped
    have hbz : Below (x + 3) w1 (w1.alloc (.cells #[.int .i64 i] 3)) := (Below.refl _ _).alloc (by have := HST1.out.size; omega) _
    refine wl_append_any (by rfl) _ _ 31 (by rfl) (x + 3) 3 iI (.int .i64 0) 1 8 Tryd.underlying31 KI.out.1 KI.out.2.1 KI.out.2.2.1 KI.out.2.2.2 rfl (by decide) _ _ _ (by rfl) (HO1.out.alloc _) (some ⟨w1.heap.size, 0, none⟩) 1 1 [.int .i64 i] (by rfl) (by rfl) (fun ad e => by cases e; exact cell_one_new _ _ _) (fun e => by cases e) (fun u hu => by rw [List.mem_singleton.1 hu]; rfl) ?m2 ?b2 ?z2 ?_
    case m2 => unfold maxLen; omega
    case b2 => omega
    case z2 => have := HST1.out.size; simp; omega
    intro v2 w2 ho2 hg2
    have hb2 : Below (x + 3) w1 w2 := hbz.grown hg2 (by have := HST1.out.size; simp; omega) (own_blk HO1.out)
    have HST2 := Lib.hid (HST1.out.step hb2)
    have hro : w2.ownsRow (x + 3) 3 1 v2 ((L ++ [(i, p, false)]).map (·.1)).length (((L ++ [(i, p, false)]).map (·.1)).map (Value.int .i64)) := by
      have e1 : ((L ++ [(i, p, false)]).map (·.1)).length = 0 + n + 1 := by have := HN.out; simp; omega
      rw [e1]
      simpa using ho2
    obtain ⟨aA2, cA2, rfl, hrA2, hoA2⟩ := rowOf_owns hro
    have hlen : ((L ++ [(i, p, false)]).map (·.1)).length = n + 1 := by have := HN.out; simp; omega
    rw [hlen]
    have HRA2 := Lib.hid hrA2
    have c1 := HST2.out.at (j := 1) rfl
    have f1 := HST2.out.frozen (j := 1) (by decide)
    clear hbz ho2 hg2 hb2 hro hlen hrA2 HO1 HST1
    go_wp2
    have HST3 := Lib.hid (HST2.out.put 1 (by simp) (.slice aA2 (n + 1) cA2))
    have HRA3 : Hid (RowOf (Value.int .i64) (w2.setCell ⟨x, 1, none⟩ (.slice aA2 (n + 1) cA2)) aA2 cA2 ((L ++ [(i, p, false)]).map (·.1))) := HRA2.out.set (fun ad e => by have := hoA2 ad e; show ad.block ≠ x; omega) _
    have HOA2 := Lib.hid hoA2
    clear c1 f1 HST2 HRA2 hoA2
    generalize w2.setCell ⟨x, 1, none⟩ (.slice aA2 (n + 1) cA2) = w3 at *
    have c2 := HST3.out.at (j := 2) rfl
    have f2 := HST3.out.frozen (j := 2) (by decide)
    have hrp := HST3.out.page
    have hu := Tryd.underlying36
    have hi36 : (Tryd.prog.info? 36).map (·.size) = some (cellsB p).length := by rw [arSize, cellsB_len, HP.out]
    have h64c : (cellsB p).length = 64 := by rw [cellsB_len, HP.out]
    have hone := cellsB_one p
    have hs3 : x + 3 ≤ w3.heap.size := HST3.out.size
    go_cut [] from 39 (fun wc => ∃ aW2 cW2, Hid (WSt w wc x [.int .i64 size, .slice aA2 (n + 1) cA2, .slice aW2 (n + 1) cW2, .slice aF n cF, .bool false, .int .i64 bud2] p ∧ RowOf (Value.int .i64) wc aA2 cA2 ((L ++ [(i, p, false)]).map (·.1)) ∧ RowN 64 cellsB wc aW2 cW2 ((L ++ [(i, p, false)]).map (·.2.1)) ∧ (∀ ad, aA2 = some ad → x + 3 ≤ ad.block) ∧ (∀ ad, aW2 = some ad → x + 3 ≤ ad.block)))
    case first =>
      have hb00 : Below w3.heap.size w3 w3 := Below.refl _ _
      obtain ⟨NW, hNW⟩ : ∃ NW, (L.map (·.2.1)).flatMap cellsB = NW := ⟨_, rfl⟩
      have h64L : ∀ y ∈ L.map (·.2.1), (cellsB y).length = 64 := fun y hy => by
        obtain ⟨z, hz, rfl⟩ := List.mem_map.1 hy
        rw [cellsB_len]
        exact H64.out z hz
      have hlNW : NW.length = n * 64 := by rw [← hNW, flat_len _ h64L, List.length_map, HN.out]
      have honeW : ∀ u ∈ NW, u.oneCell' = true := fun u hu => by
        rw [← hNW] at hu
        obtain ⟨y, _, hu⟩ := List.mem_flatMap.1 hu
        exact cellsB_one y u hu
      have hsrcW : ∀ W, Below w3.heap.size w3 W → ∀ ad, aW = some ad → ∀ j u, NW[j]? = some u → W.cell? (ad.add j) = some u := fun W hWb => by
        rw [← hNW]
        exact ((HW.out.below (HX.out ▸ (HST3.out.below.trans (hWb.mono (by omega))))).src (by decide) h64L).1
      have hnoneW : aW = none → n = 0 := fun e => by
        have := (HW.out.src (by decide) h64L).2 e
        rw [List.length_map, HN.out] at this
        exact this
      have hm1 : 0 + n ≤ maxLen := by unfold maxLen; omega
      have hm2 : 0 + n + 1 ≤ maxLen := by unfold maxLen; omega
      have h64z : (List.replicate 64 (Value.int .u8 0)).length = 64 := List.length_replicate
      have hfin : ∀ v w, w.ownsRow w3.heap.size 36 64 v (0 + n + 1) ([] ++ NW ++ cellsB p) → ∃ a cap, v = .slice a (n + 1) cap ∧ RowN 64 cellsB w a cap ((L ++ [(i, p, false)]).map (·.2.1)) ∧ ∀ ad, a = some ad → x + 3 ≤ ad.block := fun v w h => by
        have e1 : ((L ++ [(i, p, false)]).map (·.2.1)).length = n + 1 := by have := HN.out; simp; omega
        have e2 : ((L ++ [(i, p, false)]).map (·.2.1)).flatMap cellsB = [] ++ NW ++ cellsB p := by rw [← hNW]; simp
        have := rowN_owns (l := (L ++ [(i, p, false)]).map (·.2.1)) (C := 64) (f := cellsB) (w := w) (B := w3.heap.size) (e := 36) (v := v) (fun y hy => by
          rw [List.map_append] at hy
          rcases List.mem_append.1 hy with hy | hy
          · exact h64L y hy
          · rw [List.mem_singleton.1 hy]; exact h64c) (by rw [e1, e2]; simpa using h)
        rw [e1] at this
        obtain ⟨a, cap, h1, h2, h3⟩ := this
        exact ⟨a, cap, h1, h2, fun ad e => Nat.le_trans hs3 (h3 ad e)⟩
      have hx3 : x < w3.heap.size := by omega
      have hx31 : x < w3.heap.size + 1 := by omega
      have k0 : Keeps w3.heap.size w3 w3 := keeps_self (Nat.le_refl _)
      have k1 := fun W (h : Keeps w3.heap.size w3 W) => keeps_pg hrp HP.out (by omega) h
      have q1 := (k1 _ k0).1
      have q2 := (k1 _ k0).2
      have q3 := (k1 _ (keeps_drew k0)).1
      have q4 := (k1 _ (keeps_drew k0)).2
      have q5 := fun o => (k1 _ (keeps_drew (keeps_alloc k0 o))).1
      have q6 := fun o => (k1 _ (keeps_drew (keeps_alloc k0 o))).2
      have K1 := Lib.hid k1
      clear k1
      go_region_law
        (first
          | (((refine step_append_any (by rfl) _ _ 32 (by rfl) w3.heap.size 36 iA (pgv zpg) 64 64 Tryd.underlying32 KA.out.1 KA.out.2.1 KA.out.2.2.1 KA.out.2.2.2 zpg_cells (by decide) v5 (0 + n) ([] ++ NW) ?_ ?_ (some ⟨w5.heap.size, 0, none⟩) 1 1 (cellsB p) ?_ h64c (fun ad e => src_some e ?_) (fun e => by cases e) hone hm2 (by omega) ?_ ?_); (focus (rfl)); (focus ((repeat' (first | with_reducible exact ho5 | with_reducible refine World.ownsRow.drew ?_ | with_reducible refine World.ownsRow.alloc ?_ _)); done)); (focus (rfl)); (focus ((repeat' (first | with_reducible assumption | with_reducible exact range_box _ _ (by simp) _ _ | exact range_fold _ _ (by simp) p _ (h64z.trans h64c.symm) _ | with_reducible refine range_drew ?_ | with_reducible refine range_alloc ?_ (by (first | omega | (simp <;> omega) | simp)))); done)); (focus (first | omega | (simp <;> omega) | simp)); intro v6 w6 ho6 hg6; refine grown_step (B := w3.heap.size) (w3 := w3) ?_ hg6 ?_ (own_blk ho5) ?_; (focus ((repeat' (first | with_reducible assumption | (with_reducible refine Below.drew ?_) | (with_reducible refine Below.alloc ?_ ?_ _) | omega | (simp <;> omega))); done)); (focus (first | omega | (simp <;> omega) | simp)); intro hb6 hs6; obtain ⟨aW2, cW2, rfl, hrW2, hoW2⟩ := hfin _ _ ho6; obtain ⟨_, c6, f6, _⟩ := hold_of c2 f2 hrp (hb6.mono hs3)))
          | (((refine step_append_any (by rfl) _ _ 32 (by rfl) w3.heap.size 36 iA (pgv zpg) 64 64 Tryd.underlying32 KA.out.1 KA.out.2.1 KA.out.2.2.1 KA.out.2.2.2 zpg_cells (by decide) v5 (0 + n) ([] ++ NW) ?_ ?_ (some ⟨w3.heap.size + 1, 0, none⟩) 1 1 (cellsB p) ?_ h64c (fun ad e => src_some e ?_) (fun e => by cases e) hone hm2 (by omega) ?_ ?_); (focus (rfl)); (focus ((repeat' (first | with_reducible exact ho5 | with_reducible refine World.ownsRow.drew ?_ | with_reducible refine World.ownsRow.alloc ?_ _)); done)); (focus (rfl)); (focus ((repeat' (first | with_reducible assumption | with_reducible exact range_box _ _ (by simp) _ _ | exact range_fold _ _ (by simp) p _ (h64z.trans h64c.symm) _ | with_reducible refine range_drew ?_ | with_reducible refine range_alloc ?_ (by (first | omega | (simp <;> omega) | simp)))); done)); (focus (first | omega | (simp <;> omega) | simp)); intro v6 w6 ho6 hg6; refine grown_step (B := w3.heap.size) (w3 := w3) ?_ hg6 ?_ (own_blk ho5) ?_; (focus ((repeat' (first | with_reducible assumption | (with_reducible refine Below.drew ?_) | (with_reducible refine Below.alloc ?_ ?_ _) | omega | (simp <;> omega))); done)); (focus (first | omega | (simp <;> omega) | simp)); intro hb6 hs6; obtain ⟨aW2, cW2, rfl, hrW2, hoW2⟩ := hfin _ _ ho6; obtain ⟨_, c6, f6, _⟩ := hold_of c2 f2 hrp (hb6.mono hs3)))
          | (((refine step_append_any (by rfl) _ _ 32 (by rfl) w3.heap.size 36 iA (pgv zpg) 64 64 Tryd.underlying32 KA.out.1 KA.out.2.1 KA.out.2.2.1 KA.out.2.2.2 zpg_cells (by decide) v5 (0 + n) ([] ++ NW) ?_ ?_ (some ⟨w3.heap.size, 0, none⟩) 1 1 (cellsB p) ?_ h64c (fun ad e => src_some e ?_) (fun e => by cases e) hone hm2 (by omega) ?_ ?_); (focus (rfl)); (focus ((repeat' (first | with_reducible exact ho5 | with_reducible refine World.ownsRow.drew ?_ | with_reducible refine World.ownsRow.alloc ?_ _)); done)); (focus (rfl)); (focus ((repeat' (first | with_reducible assumption | with_reducible exact range_box _ _ (by simp) _ _ | exact range_fold _ _ (by simp) p _ (h64z.trans h64c.symm) _ | with_reducible refine range_drew ?_ | with_reducible refine range_alloc ?_ (by (first | omega | (simp <;> omega) | simp)))); done)); (focus (first | omega | (simp <;> omega) | simp)); intro v6 w6 ho6 hg6; refine grown_step (B := w3.heap.size) (w3 := w3) ?_ hg6 ?_ (own_blk ho5) ?_; (focus ((repeat' (first | with_reducible assumption | (with_reducible refine Below.drew ?_) | (with_reducible refine Below.alloc ?_ ?_ _) | omega | (simp <;> omega))); done)); (focus (first | omega | (simp <;> omega) | simp)); intro hb6 hs6; obtain ⟨aW2, cW2, rfl, hrW2, hoW2⟩ := hfin _ _ ho6; obtain ⟨_, c6, f6, _⟩ := hold_of c2 f2 hrp (hb6.mono hs3)))
          | (((refine step_append_any (by rfl) _ _ 32 (by rfl) w3.heap.size 36 iA (pgv zpg) 64 64 Tryd.underlying32 KA.out.1 KA.out.2.1 KA.out.2.2.1 KA.out.2.2.2 zpg_cells (by decide) (.slice (some ⟨w3.heap.size, 0, none⟩) 0 0) 0 [] ?_ ?_ aW n cW NW ?_ hlNW (hsrcW _ ?_) hnoneW honeW hm1 (by omega) ?_ ?_); (focus (rfl)); (focus ((repeat' (first | with_reducible refine World.ownsRow.drew ?_ | with_reducible exact owns_new _ _ _ (by simp) (by (first | omega | (simp <;> omega) | simp)) _ _ | with_reducible refine World.ownsRow.alloc ?_ _)); done)); (focus (rfl)); (focus ((repeat' (first | with_reducible assumption | (with_reducible refine Below.drew ?_) | (with_reducible refine Below.alloc ?_ ?_ _) | omega | (simp <;> omega))); done)); (focus (first | omega | (simp <;> omega) | simp)); intro v5 w5 ho5 hg5; refine grown_step (B := w3.heap.size) (w3 := w3) ?_ hg5 ?_ ?_ ?_; (focus ((repeat' (first | with_reducible assumption | (with_reducible refine Below.drew ?_) | (with_reducible refine Below.alloc ?_ ?_ _) | omega | (simp <;> omega))); done)); (focus (first | omega | (simp <;> omega) | simp)); (focus (intro k hk; simp [Value.ownBlock] at hk; omega)); intro hb5 hs5; have q7 := (K1.out _ ⟨hb5, hs5⟩).1; have q8 := (K1.out _ ⟨hb5, hs5⟩).2; refine range_step (N := w3.heap.size + 1) (cs := cellsB p) ?_ hg5 ?_ ?_ ?_; (focus ((repeat' (first | with_reducible assumption | with_reducible exact range_box _ _ (by simp) _ _ | exact range_fold _ _ (by simp) p _ (h64z.trans h64c.symm) _ | with_reducible refine range_drew ?_ | with_reducible refine range_alloc ?_ (by (first | omega | (simp <;> omega) | simp)))); done)); (focus (first | omega | (simp <;> omega) | simp)); (focus (simp [Value.ownBlock]; done)); intro hpg5))
          | (((refine step_append_any (by rfl) _ _ 32 (by rfl) w3.heap.size 36 iA (pgv zpg) 64 64 Tryd.underlying32 KA.out.1 KA.out.2.1 KA.out.2.2.1 KA.out.2.2.2 zpg_cells (by decide) (.slice (some ⟨w3.heap.size, 0, none⟩) 0 0) 0 [] ?_ ?_ aW n cW NW ?_ hlNW (hsrcW _ ?_) hnoneW honeW hm1 (by omega) ?_ ?_); (focus (rfl)); (focus ((repeat' (first | with_reducible refine World.ownsRow.drew ?_ | with_reducible exact owns_new _ _ _ (by simp) (by (first | omega | (simp <;> omega) | simp)) _ _ | with_reducible refine World.ownsRow.alloc ?_ _)); done)); (focus (rfl)); (focus ((repeat' (first | with_reducible assumption | (with_reducible refine Below.drew ?_) | (with_reducible refine Below.alloc ?_ ?_ _) | omega | (simp <;> omega))); done)); (focus (first | omega | (simp <;> omega) | simp)); intro v5 w5 ho5 hg5; refine grown_step (B := w3.heap.size) (w3 := w3) ?_ hg5 ?_ ?_ ?_; (focus ((repeat' (first | with_reducible assumption | (with_reducible refine Below.drew ?_) | (with_reducible refine Below.alloc ?_ ?_ _) | omega | (simp <;> omega))); done)); (focus (first | omega | (simp <;> omega) | simp)); (focus (intro k hk; simp [Value.ownBlock] at hk; omega)); intro hb5 hs5; have q7 := (K1.out _ ⟨hb5, hs5⟩).1; have q8 := (K1.out _ ⟨hb5, hs5⟩).2))
          | (((refine step_append_any (by rfl) _ _ 32 (by rfl) w3.heap.size 36 iA (pgv zpg) 64 64 Tryd.underlying32 KA.out.1 KA.out.2.1 KA.out.2.2.1 KA.out.2.2.2 zpg_cells (by decide) (.slice (some ⟨w3.heap.size + 1, 0, none⟩) 0 0) 0 [] ?_ ?_ aW n cW NW ?_ hlNW (hsrcW _ ?_) hnoneW honeW hm1 (by omega) ?_ ?_); (focus (rfl)); (focus ((repeat' (first | with_reducible refine World.ownsRow.drew ?_ | with_reducible exact owns_new _ _ _ (by simp) (by (first | omega | (simp <;> omega) | simp)) _ _ | with_reducible refine World.ownsRow.alloc ?_ _)); done)); (focus (rfl)); (focus ((repeat' (first | with_reducible assumption | (with_reducible refine Below.drew ?_) | (with_reducible refine Below.alloc ?_ ?_ _) | omega | (simp <;> omega))); done)); (focus (first | omega | (simp <;> omega) | simp)); intro v5 w5 ho5 hg5; refine grown_step (B := w3.heap.size) (w3 := w3) ?_ hg5 ?_ ?_ ?_; (focus ((repeat' (first | with_reducible assumption | (with_reducible refine Below.drew ?_) | (with_reducible refine Below.alloc ?_ ?_ _) | omega | (simp <;> omega))); done)); (focus (first | omega | (simp <;> omega) | simp)); (focus (intro k hk; simp [Value.ownBlock] at hk; omega)); intro hb5 hs5; have q7 := (K1.out _ ⟨hb5, hs5⟩).1; have q8 := (K1.out _ ⟨hb5, hs5⟩).2; refine range_step (N := w3.heap.size) (cs := cellsB p) ?_ hg5 ?_ ?_ ?_; (focus ((repeat' (first | with_reducible assumption | with_reducible exact range_box _ _ (by simp) _ _ | exact range_fold _ _ (by simp) p _ (h64z.trans h64c.symm) _ | with_reducible refine range_drew ?_ | with_reducible refine range_alloc ?_ (by (first | omega | (simp <;> omega) | simp)))); done)); (focus (first | omega | (simp <;> omega) | simp)); (focus (simp [Value.ownBlock]; done)); intro hpg5)))
      all_goals
        go_wp2_with fail
        go_meet
        exact ⟨aW2, cW2, (HST3.out.step (hb6.mono hs3)).put 2 (by simp) _, (HRA3.out.below hb6).set (fun ad e => by have := HOA2.out ad e; show ad.block ≠ x; omega) _, hrW2.set (fun ad e => by have := hoW2 ad e; show ad.block ≠ x; omega) _, HOA2.out, hoW2⟩
    case rest =>
      obtain ⟨aW2, cW2, HC⟩ := hcut
      clear c2 f2 hrp hu hi36 h64c hone hs3 HST3 HRA3
      have c3 := HC.out.1.at (j := 3) rfl
      have hsc := HC.out.1.size
      have hxc : x < wc.heap.size := by omega
      go_wp2_with (at_builtin; refine Stopped.go ?_)
      unfold Stopped
      have hbz : Below wc.heap.size wc (wc.alloc (.cells #[] 4)) := (Below.refl _ _).alloc (Nat.le_refl _) _
      have hown0 := owns_empty wc wc.heap.size (Nat.le_refl _) 4 1
      have hsrc := (HF.out.below (HX.out ▸ (HC.out.1.below.trans (hbz.mono (by omega))))).src
      refine wl_append_any (by rfl) _ _ 33 (by rfl) wc.heap.size 4 iB (.bool false) 1 1 Tryd.underlying33 KB.out.1 KB.out.2.1 KB.out.2.2.1 KB.out.2.2.2 rfl (by decide) _ 0 [] (by rfl) hown0 aF n cF _ (by rfl) ?l3 hsrc.1 ?n3 ?o3 ?m3 ?b3 ?z3 ?_
      case l3 => have := HN.out; simp; omega
      case n3 => intro h; have h2 := hsrc.2 h; rw [List.length_map] at h2; have := HN.out; omega
      case o3 => intro u hu; obtain ⟨b, _, rfl⟩ := List.mem_map.1 hu; rfl
      case m3 => unfold maxLen; omega
      case b3 => omega
      case z3 => simp
      intro v7 w7 ho7 hg7
      have hb7 : Below wc.heap.size wc w7 := hbz.grown hg7 (by simp) (fun k hk => by simp [Value.ownBlock] at hk; omega)
      have HB7 := Lib.hid hb7
      have HO7 := Lib.hid ho7
      clear hsrc hown0 hbz ho7 hg7 hb7 c3
      go_wp2_with (at_builtin; refine Stopped.go ?_)
      unfold Stopped
      have hbz : Below wc.heap.size w7 (w7.alloc (.cells #[.bool false] 4)) := (Below.refl _ _).alloc HB7.out.size _
      refine wl_append_any (by rfl) _ _ 33 (by rfl) wc.heap.size 4 iB (.bool false) 1 1 Tryd.underlying33 KB.out.1 KB.out.2.1 KB.out.2.2.1 KB.out.2.2.2 rfl (by decide) _ _ _ (by rfl) (HO7.out.alloc _) (some ⟨w7.heap.size, 0, none⟩) 1 1 [.bool false] (by rfl) (by rfl) (fun ad e => by cases e; exact cell_one_new _ _ _) (fun e => by cases e) (fun u hu => by rw [List.mem_singleton.1 hu]; rfl) ?m4 ?b4 ?z4 ?_
      case m4 => unfold maxLen; omega
      case b4 => omega
      case z4 => have := HB7.out.size; simp; omega
      intro v8 w8 ho8 hg8
      have hb8 : Below wc.heap.size wc w8 := HB7.out.trans (hbz.grown hg8 (by have := HB7.out.size; simp; omega) (own_blk HO7.out))
      have hro : w8.ownsRow wc.heap.size 4 1 v8 ((L ++ [(i, p, false)]).map (·.2.2)).length (((L ++ [(i, p, false)]).map (·.2.2)).map Value.bool) := by
        have e1 : ((L ++ [(i, p, false)]).map (·.2.2)).length = 0 + n + 1 := by have := HN.out; simp; omega
        rw [e1]
        simpa using ho8
      obtain ⟨aF2, cF2, rfl, hrF2, hoF2⟩ := rowOf_owns hro
      have hlen : ((L ++ [(i, p, false)]).map (·.2.2)).length = n + 1 := by have := HN.out; simp; omega
      rw [hlen]
      have HST8 := Lib.hid (HC.out.1.step (hb8.mono hsc))
      have c3 := HST8.out.at (j := 3) rfl
      have f3 := HST8.out.frozen (j := 3) (by decide)
      have HST9 := Lib.hid (HST8.out.put 3 (by simp) (.slice aF2 (n + 1) cF2))
      have HRA9 := Lib.hid ((HC.out.2.1.below hb8).set (p := ⟨x, 3, none⟩) (fun ad e => by have := HC.out.2.2.2.1 ad e; show ad.block ≠ x; omega) (.slice aF2 (n + 1) cF2))
      have HRW9 := Lib.hid ((HC.out.2.2.1.below hb8).set (p := ⟨x, 3, none⟩) (fun ad e => by have := HC.out.2.2.2.2 ad e; show ad.block ≠ x; omega) (.slice aF2 (n + 1) cF2))
      have HRF9 := Lib.hid (hrF2.set (p := ⟨x, 3, none⟩) (fun ad e => by have := hoF2 ad e; show ad.block ≠ x; omega) (.slice aF2 (n + 1) cF2))
      have HOA := Lib.hid HC.out.2.2.2.1
      have HOW := Lib.hid HC.out.2.2.2.2
      have HOF : Hid (∀ ad, aF2 = some ad → x + 3 ≤ ad.block) := fun ad e => Nat.le_trans hsc (hoF2 ad e)
      clear hbz ho8 hg8 hb8 hro hlen hrF2 hoF2 HO7 HB7 HST8 HC hsc
      have hone9 : ∀ u ∈ [Value.int .i64 size, .slice aA2 (n + 1) cA2, .slice aW2 (n + 1) cW2, .slice aF2 (n + 1) cF2, .bool false, .int .i64 bud2], u.oneCell' = true := by simp [Value.oneCell']
      go_wp2_with (first | (refine wpList_load_mid (by rfl) 35 _ (by rfl) x 0 (by rfl) [.int .i64 size, .slice aA2 (n + 1) cA2, .slice aW2 (n + 1) cW2, .slice aF2 (n + 1) cF2, .bool false, .int .i64 bud2] _ HST9.out.disk Tryd.underlying35 rfl rdSize ?_) | (refine wpList_store_mid (by rfl) 35 _ _ (by rfl) (x + 1 + 1) 0 #[.int .i64 size, .slice aA2 (n + 1) cA2, .slice aW2 (n + 1) cW2, .slice aF2 (n + 1) cF2, .bool false, .int .i64 bud2] (by rfl) (by rfl) HST9.out.out rdSize (all_oneCell_toArray hone9) ?_))
      have hrg := World.rangeAt_setCells_same (w8.setCell ⟨x, 3, none⟩ (.slice aF2 (n + 1) cF2)) (x + 1 + 1) 0 [.int .i64 size, .slice aA2 (n + 1) cA2, .slice aW2 (n + 1) cW2, .slice aF2 (n + 1) cF2, .bool false, .int .i64 bud2] HST9.out.out
      have hld := run_loadVar_mid _ (x + 1 + 1) 0 35 _ _ hrg Tryd.underlying35 rfl rdSize
      refine bodyPost_ret (v := .tuple #[.agg #[.int .i64 size, .slice aA2 (n + 1) cA2, .slice aW2 (n + 1) cW2, .slice aF2 (n + 1) cF2, .bool false, .int .i64 bud2], .int .i64 0]) ?_ rfl ⟨aA2, aW2, aF2, cA2, cW2, cF2, rfl, RowOf.sets (fun ad e => by have := HOA.out ad e; omega) HRA9.out _ _, RowN.sets (fun ad e => by have := HOW.out ad e; omega) HRW9.out _ _, RowOf.sets (fun ad e => by have := HOF.out ad e; omega) HRF9.out _ _, HX.out ▸ below_cells HST9.out.below (by omega) _ _, fun ad e => by have := HOA.out ad e; have := HX.out; omega, fun ad e => by have := HOW.out ad e; have := HX.out; omega, fun ad e => by have := HOF.out ad e; have := HX.out; omega⟩
      rw [results_cell_tmp rfl]
      simp [asAddr, Result.andThen, hld]
end Go.Proofs.YtgjakhfmjnpkcaaDoor
