/-
  The contract of path.Deep: how many names a path has; -1 of no path. Condition: the text's size fits an int.
-/
import Derived.Test.YtflomllfehoedaaDoorS3Parts
import Derived.Test.YtflomllfehoedaaDoorS3Name3
namespace Go.Proofs.YtflomllfehoedaaDoor
open Go.RowKit Go.Shelf
attribute [local go_sem] Oper.semAt_some

theorem lt_cell {w : World} {a : Addr} {x : Value} (h : w.cell? a = some x) : a.block < w.heap.size := by
  rcases Nat.lt_or_ge a.block w.heap.size with h' | h'
  · exact h'
  · simp [World.cell?, Array.getElem?_eq_none h'] at h
theorem keeps_below {W W' : World} (h : Below W.heap.size W W') : KeepsOthers W W' := ⟨h.size, fun k _ hk _ => (h.block k (Array.getElem?_eq_some_iff.1 hk).1).trans hk⟩
theorem below_cellk {W W' : World} {B : Nat} {v : Value} (h : Below W.heap.size W W') (hc : W.cell? ⟨B, 0, none⟩ = some v) : W'.cell? ⟨B, 0, none⟩ = some v := (h.cell (p := ⟨B, 0, none⟩) (lt_cell hc)).trans hc
theorem below_frozenk {W W' : World} {B : Nat} {v : Value} {f : Bool} (h : Below W.heap.size W W') (hc : W.cell? ⟨B, 0, none⟩ = some v) (hf : W.frozen? ⟨B, 0, none⟩ = f) : W'.frozen? ⟨B, 0, none⟩ = f := (h.frozen (p := ⟨B, 0, none⟩) (lt_cell hc)).trans hf

theorem dp_done {p : ByteArray} (hh : p.data.toList.head? = some 47) (h6 : (prts p).length ≤ 6) (hn : ∀ y ∈ prts p, nm y.data.toList = true) : dp p.data.toList = ((prts p).length : Int) := by
  have : isP p.data.toList := ⟨hh, by simpa [prts] using h6, fun x hx => hn (bs x) (List.mem_map.2 ⟨x, hx, rfl⟩)⟩
  rw [dp_pos this]
  simp [prts]
theorem dp_stop {p : ByteArray} {pre : List ByteArray} (hpre : pre <+: prts p) (h : 6 < pre.length ∨ ∃ y ∈ pre, nm y.data.toList = false) : dp p.data.toList = -1 := by
  refine dp_neg fun hp => ?_
  rcases h with h | ⟨y, hy, hn⟩
  · have h1 := hpre.length_le
    have h2 := hp.2.1
    simp only [prts, List.length_map] at h1
    omega
  · obtain ⟨z, hz, rfl⟩ := List.mem_map.1 (hpre.subset hy)
    have := hp.2.2 z hz
    rw [data_bs, this] at hn
    cases hn

set_option maxRecDepth 100000 in
set_option maxHeartbeats 4000000 in
theorem deep_slash (p : ByteArray) (hh : p.data.toList.head? = some 47) (hz : p.size ≤ 9223372036854775807) (w : World) :
    Calls Tryd.prog 25 #[.string p] w fun e w' => e = .returned (.int .i64 (dp p.data.toList)) ∧ Below w.heap.size w w' := by
  refine (callsIn_wide (n := 3)).1 ?_
  refine callsIn_of_wp_marks Tryd.func25 rfl trivial ?_ rfl
  simp only [Tryd.ntmps25, List.size_toArray, List.length_cons, List.length_nil, Nat.reduceAdd, Nat.reduceSub, Array.replicate_succ, Array.replicate_zero, List.push_toArray, List.append_toArray, List.nil_append, List.cons_append]
  have hpre : ([47] : List UInt8).isPrefixOf p.data.toList = true := by
    cases h : p.data.toList with
    | nil => rw [h] at hh; cases hh
    | cons c r => rw [h] at hh; obtain rfl : c = 47 := by simpa using hh
                  simp
  have HH := Lib.hid hh
  have HP := Lib.hid hpre
  have HZ := Lib.hid hz
  clear hh hz hpre
  gi_wp2_with (refine ⟨trivial, ?_⟩; gi_at_call 48; refine (callsIn_wide.2 (hasPrefix_any p ⟨#[47]⟩ _)).mono ?_; rintro e w' ⟨rfl, rfl⟩; rw [show ([47] : List UInt8).isPrefixOf p.data.toList = true from HP.out])
  refine ⟨trivial, ?_⟩
  refine (callsIn_wide.2 (parts_any p _)).mono ?_
  rintro e w' ⟨rfl, rfl⟩
  gi_wp2
  have c0 := Boxed.new w 3 (.int .i64 0)
  have c1 := Boxed.new (w.alloc (.cells #[.int .i64 0] 3)) 3 (.int .i64 0)
  have c2 := Boxed.new ((w.alloc (.cells #[.int .i64 0] 3)).alloc (.cells #[.int .i64 0] 3)) 9 (.string p)
  simp only [World.size_alloc] at c1 c2
  have hB0 : Below w.heap.size w (((w.alloc (.cells #[.int .i64 0] 3)).alloc (.cells #[.int .i64 0] 3)).alloc (.cells #[.string p] 9)) := (((Below.refl _ w).alloc (Nat.le_refl _) _).alloc (by simp) _).alloc (by simp; omega) _
  refine wpIn_rangeFunc_ownF rfl (by omega) (gf := 69) (lb := #[.pointer (some ⟨w.heap.size + 1 + 1, 0, none⟩)]) rfl trivial (enters_of Tryd.func69 (by kernel_rfl) rfl)
    (parts_stops _ (by omega) (w.heap.size + 1 + 1) w.heap.size p HH.out HZ.out _ (by simp) c2.cell) belowK_t (belowK_b (by simp; omega)) (Below.refl _ _) (fun _ => rfl)
    (fun pre W => (Hid (pre.length ≤ 6 ∧ ∀ y ∈ pre, nm y.data.toList = true) ∧ (W.cell? ⟨w.heap.size, 0, none⟩ = some (.int .i64 0) ∧ W.frozen? ⟨w.heap.size, 0, none⟩ = false) ∧ W.cell? ⟨w.heap.size + 1, 0, none⟩ = some (.int .i64 (pre.length : Int)) ∧ W.frozen? ⟨w.heap.size + 1, 0, none⟩ = false) ∧ Below w.heap.size w W)
    (fun c pre W => (c = .ret ∧ Hid (6 < pre.length ∨ ∃ y ∈ pre, nm y.data.toList = false) ∧ W.cell? ⟨w.heap.size, 0, none⟩ = some (.int .i64 (-1))) ∧ Below w.heap.size w W)
    (OwnFrom.and (Own.from (fun s A B row hs hg hr => ⟨hs.1, ⟨cell_kept hs.2.1.1 hg hr, (frozen_kept hs.2.1.1 hg hr).trans hs.2.1.2⟩, cell_kept hs.2.2.1 hg hr, (frozen_kept hs.2.2.1 hg hr).trans hs.2.2.2⟩) _) (ownFrom_below (Nat.le_refl _) (by simp; omega)))
    (fun c => OwnFrom.and (Own.from (fun s A B row hs hg hr => ⟨hs.1, hs.2.1, cell_kept hs.2.2 hg hr⟩) _) (ownFrom_below (Nat.le_refl _) (by simp; omega)))
    ⟨⟨⟨by simp, by simp⟩, ⟨((c0.alloc _).alloc _).cell, ((c0.alloc _).alloc _).frozen⟩, (c1.alloc _).cell, (c1.alloc _).frozen⟩, hB0⟩
    (fun x => { tmps := #[.string p, undef, .pointer (some ⟨w.heap.size, 0, none⟩), .pointer (some ⟨w.heap.size + 1, 0, none⟩), .string x, .string p, .bool true, .bool false, .string p, .func (.func 69) #[] #[.pointer (some ⟨w.heap.size + 1 + 1, 0, none⟩)], .string x, undef, undef, undef, undef, undef, undef, undef, undef, undef, undef], defers := [] }) ?assign ?body ?done ?stop
  case assign =>
    intro l x W K hK
    gi_wp2
    exact hK
  case body =>
    rintro l pre x W ⟨⟨hp, ⟨hc0, hf0⟩, hc1, hf1⟩, hB⟩ _
    have HB := Lib.hid hB
    clear hB c0 c1 c2 hB0
    by_cases h6 : pre.length = 6
    · rw [h6] at hc1
      gi_wp2
      refine ⟨trivial, ?_⟩
      gi_wp2
      exact ⟨KeepsOthers.setCell _ _ _, ⟨rfl, .inl (by simp [h6]), World.cell?_setCell_same' _ _ _ (by rw [hc0]; rfl)⟩, HB.out.setCell (p := ⟨w.heap.size, 0, none⟩) (Nat.le_refl _) _⟩
    · have h6' : ((pre.length : Int) == 6) = false := by simp; omega
      have hle : pre.length < 6 := by have := hp.out.1; omega
      have hw1 : IntKind.i64.wrap ((pre.length : Int) + 1) = (pre.length : Int) + 1 := IntWalk.i64_in _ (by omega)
      cases hnm : nm x.data.toList with
      | false =>
        gi_wp2_with (refine ⟨trivial, ?_⟩; gi_at_call 51; refine (CallsIn.inRound l (callsIn_wide.2 (name_any x _))).mono ?_)
        rintro e w1 ⟨rfl, hb⟩
        rw [hnm]
        have hc0' := below_cellk hb hc0
        have hf0' := below_frozenk hb hc0 hf0
        have HB1 := Lib.hid hb
        clear hb
        gi_wp2
        exact ⟨(keeps_below HB1.out).trans (KeepsOthers.setCell _ _ _), ⟨rfl, .inr ⟨x, by simp, hnm⟩, World.cell?_setCell_same' _ _ _ (by rw [hc0']; rfl)⟩, (HB.out.trans (HB1.out.mono HB.out.size)).setCell (p := ⟨w.heap.size, 0, none⟩) (Nat.le_refl _) _⟩
      | true =>
        gi_wp2_with (refine ⟨trivial, ?_⟩; gi_at_call 51; refine (CallsIn.inRound l (callsIn_wide.2 (name_any x _))).mono ?_)
        rintro e w1 ⟨rfl, hb⟩
        rw [hnm]
        have hc0' := below_cellk hb hc0
        have hf0' := below_frozenk hb hc0 hf0
        have hc1' := below_cellk hb hc1
        have hf1' := below_frozenk hb hc1 hf1
        have HB1 := Lib.hid hb
        clear hb
        gi_wp2
        have hB1 := HB.out.trans (HB1.out.mono HB.out.size)
        refine ⟨(keeps_below HB1.out).trans (KeepsOthers.setCell _ _ _), (HB1.out.mono HB.out.size).setCell (p := ⟨w.heap.size + 1, 0, none⟩) (by simp) _, ⟨⟨?_, ?_⟩, ⟨?_, ?_⟩, ?_, ?_⟩, hB1.setCell (p := ⟨w.heap.size + 1, 0, none⟩) (by simp) _⟩
        · simp; omega
        · intro y hy
          rcases List.mem_append.1 hy with hy | hy
          · exact hp.out.2 y hy
          · obtain rfl : y = x := by simpa using hy
            exact hnm
        · rw [World.cell?_setCell_other (h := by simp)]
          exact hc0'
        · rw [World.frozen?_setCell]; exact hf0'
        · rw [World.cell?_setCell_same' _ _ _ (by rw [hc1']; rfl)]
          simp
        · rw [World.frozen?_setCell]; exact hf1'
  case done =>
    rintro D ys W hD rfl ⟨⟨hp, ⟨hc0, hf0⟩, hc1, _⟩, hB⟩ hK
    have HB := Lib.hid hB
    clear hB
    gi_wp2
    have hK' := (KeepsOthers.setCell W ⟨w.heap.size, 0, none⟩ (.int .i64 ((prts p).length : Int))).same D _ hK rfl
    refine ⟨by simp, .inl ⟨_, _, rfl, run_takeDeferred hK', ?_⟩⟩
    have hc5 := cell_kept (World.cell?_setCell_same' W ⟨w.heap.size, 0, none⟩ (.int .i64 ((prts p).length : Int)) (by rw [hc0]; rfl)) (grownBy_putObj' _ D (.deferred none)) (fun r e => by cases e; exact ⟨_, hK', rfl⟩)
    refine ⟨.int .i64 ((prts p).length : Int), ?_, by rw [dp_done HH.out hp.out.1 hp.out.2], (HB.out.setCell (p := ⟨w.heap.size, 0, none⟩) (Nat.le_refl _) _).trans (belowK_b (w := w) (Nat.le_refl _) _ D _ _ (by simp at hD; omega) hK' rfl rfl)⟩
    simp [results, Tryd.f25, go_sem, hc5]
  case stop =>
    rintro D c pre W hD hpre ⟨⟨rfl, hin, hcr⟩, hB⟩ hK
    have HB := Lib.hid hB
    clear hB
    gi_wp2
    refine ⟨by simp, .inl ⟨_, _, rfl, run_takeDeferred hK, ?_⟩⟩
    have hc5 := cell_kept hcr (grownBy_putObj' _ D (.deferred none)) (fun r e => by cases e; exact ⟨_, hK, rfl⟩)
    refine ⟨.int .i64 (-1), ?_, by rw [dp_stop hpre hin.out], HB.out.trans (belowK_b (w := w) (Nat.le_refl _) W D _ _ (by simp at hD; omega) hK rfl rfl)⟩
    simp [results, Tryd.f25, go_sem, hc5]
end Go.Proofs.YtflomllfehoedaaDoor
