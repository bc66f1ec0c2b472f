/-
  Contracts of the landed disk's Flush, of a disk and of nil. Conditions: as each says.
-/
import Derived.Test.YtgjakhfmjnpkcaaDoorS5Write
namespace Go.Proofs.YtgjakhfmjnpkcaaDoor
open Go.RowKit Go.Maps

/-- What is firm while a range over the writes that aren't is under way. -/
def ffL (new : Int → Option PgL) (ff : Int → Option PgL) (fs : Int → Option Value) (left : Int → Bool) (i : Int) : Option PgL := if (fs i).isSome && !(left i) then new i else ff i
theorem ffL_start (new ff : Int → Option PgL) (fs : Int → Option Value) : ffL new ff fs (fun i => (fs i).isSome) = ff := by
  funext i
  unfold ffL
  rw [if_neg (by cases h : fs i <;> simp [h])]
theorem ffL_next {new ff : Int → Option PgL} {fs : Int → Option Value} {left : Int → Bool} {x : Int} {v : Value} (hx : fs x = some v) : (fun z => if z = x then new x else ffL new ff fs left z) = ffL new ff fs (fun z => left z && !(z == x)) := by
  funext z
  by_cases e : z = x
  · subst e
    rw [if_pos rfl, ffL, if_pos (by simp [hx])]
  · rw [if_neg e]
    unfold ffL
    have : (z == x) = false := by simp [e]
    simp only [this, Bool.not_false, Bool.and_true]
theorem ffL_same {new ff : Int → Option PgL} {fs : Int → Option Value} {left : Int → Bool} {x : Int} (hx : left x = true) : ffL new ff fs left x = ff x := by
  unfold ffL
  rw [if_neg (by simp [hx])]
theorem map_next {g : Int → Option PgL} {x : Int} {n : Option PgL} : (fun z => if z = x then n.map pgv else (g z).map pgv) = fun z => (if z = x then n else g z).map pgv := by
  funext z
  split <;> rfl

section
variable {w wx : World} {F : Nat → Prop} {b : Nat} {D : DskV} {mf ms nf ns : Nat} {ff : Int → Option PgL} {fs : Int → Option Value}
/-- A page is made firm. -/
theorem firm_put {D : DskV} (hok : D.ok) {f : Int → Option Value} (hm : MapOf Tryd.prog 3 wx mf 2048 f) (hin : ∀ j, f j ≠ none → 0 ≤ j ∧ j < D.size) {x : Int} (h0 : 0 ≤ x) (h1 : x < D.size) (v : Value) :
    ∃ w', (Instr.mapUpdate 58 (.map (some mf)) (.int .i64 x) v).run Tryd.prog wx = .ok () w' ∧ MapOf Tryd.prog 3 w' mf 2048 (fun z => if z = x then some v else f z) ∧ wx.grownBy w' (some mf) := by
  obtain ⟨w', h2, h3, h4⟩ := hm.put (t := 58) (e := 37) Tryd.underlying3 Tryd.underlying58 (by unfold maxLen; omega) (wf_of hok h0 h1) v
  refine ⟨w', h2, h3.tight Tryd.underlying3 2048 fun j hj => ?_, h4⟩
  have := hok.hi
  by_cases e : j = x
  · omega
  · rw [if_neg e] at hj
    have := hin j hj
    omega
/-- The writes that aren't firm are forgotten. -/
theorem DskIn.dropped (h : DskIn w F b D mf ms nf ns ff fs) (hfr : Fr (· = mf) w wx) {ff' : Int → Option PgL} {D' : DskV} {nf' : Nat} (hm : MapOf Tryd.prog 3 wx mf nf' (fun i => (ff' i).map pgv)) (hat : ∀ i, (ff' i).getD zpg = D'.firm i) (hin : ∀ i, ff' i ≠ none → 0 ≤ i ∧ i < D.size) (hpl : ∀ i l, ff' i = some l → l.length = 64)
    (e1 : D'.size = D.size) (e2 : D'.down = D.down) (e3 : D'.budget = D.budget) (e4 : D'.soft = []) :
    DskIn (((wx.setCell ⟨b, 4, none⟩ (.map (some wx.heap.size))).setCell ⟨b, 5, none⟩ (.int .i64 0)).alloc (.map #[] 0)) (fun k => F k ∨ k = wx.heap.size) b D' mf wx.heap.size nf' 0 ff' (fun _ => none)
      ∧ Fr F w (((wx.setCell ⟨b, 4, none⟩ (.map (some wx.heap.size))).setCell ⟨b, 5, none⟩ (.int .i64 0)).alloc (.map #[] 0)) := by
  have hlb := h.lt b h.inb
  have hlf := h.lt mf h.inf
  have hs := hfr.size
  have hbx : wx.heap[b]? = some (.cells (D.cells mf ms) 61 (0, 0)) := (hfr.block b hlb h.ne_bf).trans h.cells
  have hsz : ((wx.setCell ⟨b, 4, none⟩ (.map (some wx.heap.size))).setCell ⟨b, 5, none⟩ (.int .i64 0)).heap.size = wx.heap.size := by simp [World.setCell]
  have hset : ∀ k, k ≠ b → k < wx.heap.size → (((wx.setCell ⟨b, 4, none⟩ (.map (some wx.heap.size))).setCell ⟨b, 5, none⟩ (.int .i64 0)).alloc (.map #[] 0)).heap[k]? = wx.heap[k]? := fun k hk hl =>
    ((Below.heap_alloc _ _ _ (by rw [hsz]; exact hl)).trans (Below.heap_setCell _ _ _ _ hk)).trans (Below.heap_setCell _ _ _ _ hk)
  have hff : ∀ i, (D'.firm i).length = 64 := fun i => by
    rw [← hat i]
    cases hf : ff' i with
    | none => exact zpg_len
    | some l => exact hpl i l hf
  refine ⟨⟨⟨by rw [e1]; exact h.ok.lo, by rw [e1]; exact h.ok.hi, by rw [e3]; exact h.ok.bud, hff, by rw [e4]; exact fun x hx => (List.not_mem_nil hx).elim, by rw [e4]; exact fun x hx => (List.not_mem_nil hx).elim, by rw [e4]; exact Nat.zero_le _⟩, ?_, .inl h.inb, .inl h.inf, .inr rfl, ?_, by omega, ?_, hat, by rw [e1]; exact hin, ?_, fun i => by rw [e4]; exact sftOf_nil i, fun i j g n c n' c' hx => by cases hx⟩, ?_⟩
  · rw [Below.heap_alloc _ _ _ (by rw [hsz]; omega), set_of (set_of hbx 4 _) 5 _]
    simp [DskV.cells, e1, e2, e3, e4]
  · intro k hk
    rcases hk with hk | rfl
    · have := h.lt k hk
      simp [World.setCell]
      omega
    · simp [World.setCell]
  · exact hm.of_block (hset mf h.ne_bf.symm (by omega))
  · have := mapOf_made Tryd.prog 3 ((wx.setCell ⟨b, 4, none⟩ (.map (some wx.heap.size))).setCell ⟨b, 5, none⟩ (.int .i64 0))
    rw [hsz] at this
    exact this
  · exact (((hfr.mono fun k hk => .inl (hk ▸ h.inf)).setCell (.inl h.inb) _).setCell (.inl h.inb) _).alloc _
end

attribute [local go_sem ↓] ldw_pg stw_pg ldw_wr stw_wr alw_wr alw_pg
attribute [local go_sem] isPgV_ptr pgAtV_ptr thereV_ptr setV_ptr cellsV_agg isWrV_ptr wrAtV_ptr thereW_ptr cellsV_wr
set_option maxRecDepth 10000 in
theorem flush_nil (w : World) : Calls Tryd.prog 13 #[.pointer none] w fun e w' => e = .returned (errV 1) ∧ w = w' := by
  go_enter Tryd.func13, Tryd.ntmps13
  go_wp2
  go_ret
  exact ⟨rfl, rfl⟩
set_option maxRecDepth 10000 in
theorem flush_down {w : World} {F : Nat → Prop} {b : Nat} {D : DskV} (h : IsDsk w F b D) (hd : D.down = true) : Calls Tryd.prog 13 #[.pointer (some ⟨b, 0, none⟩)] w fun e w' => e = .returned (errV 11) ∧ w = w' := by
  obtain ⟨mf, ms, nf, ns, ff, fs, h⟩ := h
  have c1 := h.c1
  rw [hd] at c1
  clear h
  go_enter Tryd.func13, Tryd.ntmps13
  go_wp2
  go_ret
  exact ⟨rfl, rfl⟩
/-- What a flush has made firm so far. -/
structure FlSt (w : World) (D : DskV) (mf ms r : Nat) (ff : Int → Option PgL) (fs : Int → Option Value) (left : Int → Bool) (wx : World) : Prop where
  rg : RgOf Tryd.prog 3 wx ms r 2048 fs left
  firm : MapOf Tryd.prog 3 wx mf 2048 (fun i => (ffL (fun i => some (D.read i)) ff fs left i).map pgv)
  fr : Fr (· = mf) w wx
theorem FlSt.put {w w1 w2 : World} {F : Nat → Prop} {b : Nat} {D : DskV} {mf ms r nf ns : Nat} {ff : Int → Option PgL} {fs : Int → Option Value} (h : DskIn w F b D mf ms nf ns ff fs) {left : Int → Bool} (hr : w.heap.size ≤ r) {x : Int} {v : Value} (hx : fs x = some v)
    (hrg : RgOf Tryd.prog 3 w1 ms r 2048 fs (fun z => left z && !(z == x))) (hfm : MapOf Tryd.prog 3 w1 mf 2048 (fun i => (ffL (fun i => some (D.read i)) ff fs left i).map pgv)) (hfr : Fr (· = mf) w w1) (hb : Below w1.heap.size w1 w2)
    {G : Prop} (k : ∀ w3, (Instr.mapUpdate 58 (.map (some mf)) (.int .i64 x) (pgv (D.read x))).run Tryd.prog w2 = .ok () w3 → Hid (FlSt w D mf ms r ff fs (fun z => left z && !(z == x)) w3) → Hid (w3.rangeLeft ms r = w1.rangeLeft ms r) → w3.cell? ⟨b, 3, none⟩ = some (.map (some mf)) → G) : G := by
  have hxi := h.softIn x (by rw [hx]; exact Option.some_ne_none _)
  obtain ⟨w3, h1, h2, h3⟩ := firm_put h.ok (hfm.below hb hfm.lt) (fun j hj => by
    have hj2 : ffL (fun i => some (D.read i)) ff fs left j ≠ none := fun e => hj (by rw [e]; rfl)
    unfold ffL at hj2
    split at hj2
    · rename_i hc
      exact h.softIn j (fun e => by rw [e] at hc; simp at hc)
    · exact h.firmIn j hj2) hxi.1 hxi.2 (pgv (D.read x))
  have hfr2 : Fr (· = mf) w w2 := hfr.trans (Fr.of_below hb) fun j hj => .inl hj
  have hfr3 : Fr (· = mf) w w3 := hfr2.trans (Fr.of_grown (F := (· = mf)) h3 fun k hk => (Option.some.inj hk).symm) fun j hj => .inl hj
  have hb3 := hrg.of_blocks (w' := w3) ((h3.block ms (Nat.lt_of_lt_of_le hrg.map.lt hb.size) (fun e => h.ne (Option.some.inj e).symm)).trans (hb.block ms hrg.map.lt)) ((h3.block r (Nat.lt_of_lt_of_le hrg.lt hb.size) (fun e => by
    have e := Option.some.inj e
    have := h.lt mf h.inf
    omega)).trans (hb.block r hrg.lt))
  refine k w3 h1 ⟨hb3.1, ?_, hfr3⟩ hb3.2 (hfr3.cell h.c3 h.ne_bf)
  rw [← ffL_next (new := fun i => some (D.read i)) (ff := ff) hx]
  have e := map_next (g := ffL (fun i => some (D.read i)) ff fs left) (x := x) (n := some (D.read x))
  rw [← e]
  exact h2

set_option maxRecDepth 10000 in
set_option maxHeartbeats 1000000 in
theorem flush_up {w : World} {F : Nat → Prop} {b : Nat} {D : DskV} (h : IsDsk w F b D) (hd : D.down = false) : Calls Tryd.prog 13 #[.pointer (some ⟨b, 0, none⟩)] w fun e w' => e = .returned .nilIface ∧ ∃ F', IsDsk w' F' b D.flush ∧ Fr F w w' ∧ ∀ k, F' k → F k ∨ w.heap.size ≤ k := by
  obtain ⟨mf, ms, nf, ns, ff, fs, h⟩ := h
  have c1 := h.c1
  rw [hd] at c1
  have c4 := h.c4
  have hI := Tryd.underlying3
  have hst : MapOf Tryd.prog 3 w ms 2048 fs := h.soft.tight hI 2048 fun j hj => by
    have h1 := h.softIn j hj
    have h2 := h.ok.hi
    omega
  have hft : MapOf Tryd.prog 3 w mf 2048 (fun i => (ff i).map pgv) := h.firm.tight hI 2048 fun j hj => by
    have h1 := h.firmIn j (fun e => hj (by rw [e]; rfl))
    have h2 := h.ok.hi
    omega
  have H := Lib.hid h
  have HS := Lib.hid hst
  have HF := Lib.hid hft
  have HI := Lib.hid hI
  clear h hst hft hI hd
  go_enter Tryd.func13, Tryd.ntmps13
  go_wp2_with (first
    | (at_range; refine wl_range_of _ rfl _ 59 rfl 3 64 HI.out Tryd.underlying59 ms 2048 fs rfl HS.out ?_; intro w0 hrg0 hg0 hs0)
    | fail)
  have HR0 := Lib.hid hrg0
  have HG0 := Lib.hid hg0
  clear hrg0 hg0 hs0 c1 c4
  go_frame
  go_loopg [3, 4] (w0.rangeLeft ms w.heap.size) (fun gg _ _ wx => ∃ left, Hid (FlSt w D mf ms w.heap.size ff fs left wx) ∧ Hid (wx.rangeLeft ms w.heap.size = gg))
  case atStart =>
    refine ⟨fun i => (fs i).isSome, ⟨HR0.out, ?_, ?_⟩, rfl⟩
    · rw [ffL_start]
      exact HF.out.kept HG0.out (fun e => by cases e)
    · exact Fr.of_grown HG0.out fun k hk => by cases hk
  case round =>
    clear HR0 HG0
    obtain ⟨left, HL, HGG⟩ := hrel
    go_wp2_with (first
      | (at_next; refine wl_next_of _ rfl _ rfl 3 HI.out ms w.heap.size 2048 fs left rfl HL.out.rg ?_ ?_)
      | fail)
    · intro hl0
      have HL0 := Lib.hid hl0
      clear hl0
      have hm2 : MapOf Tryd.prog 3 wr mf 2048 (fun i => (ffL (fun i => some (D.read i)) ff fs left i).map pgv) := HL.out.firm
      have hbk := HL.out.fr.block b (H.out.lt b H.out.inb) H.out.ne_bf
      have c4 : wr.cell? ⟨b, 4, none⟩ = some (.map (some ms)) := by simpa [World.cell?, hbk] using H.out.c4
      have c5 : wr.cell? ⟨b, 5, none⟩ = some (.int .i64 (D.soft.length : Int)) := by simpa [World.cell?, hbk] using H.out.c5
      have f4 : wr.frozen? ⟨b, 4, none⟩ = false := by simpa [World.frozen?, hbk] using H.out.f4
      have f5 : wr.frozen? ⟨b, 5, none⟩ = false := by simpa [World.frozen?, hbk] using H.out.f5
      have HD := Lib.hid (drop_raw c4 f4 c5 f5)
      have HM := Lib.hid hm2
      clear hbk c4 c5 f4 f5 hm2
      go_wp2_with fail
      refine HD.out.mono ?_
      rintro e w2 ⟨rfl, hw2⟩
      have HW2 := Lib.hid hw2
      clear hw2
      go_wp2
      go_ret
      have hlen := HL.out.fr.size
      have hend := DskIn.dropped (D' := D.flush) H.out HL.out.fr HM.out (fun i => ?_) (fun i hi => ?_) (fun i l hi => ?_) rfl rfl rfl rfl
      · rw [HW2.out]
        exact ⟨rfl, _, ⟨_, _, _, _, _, _, hend.1⟩, hend.2, fun k hk => hk.imp_right fun e => by omega⟩
      · show (ffL (fun i => some (D.read i)) ff fs left i).getD zpg = lst D.soft i (D.firm i)
        unfold ffL
        split
        · rfl
        · rename_i hc
          have hfn : fs i = none := by
            cases hf : fs i with
            | none => rfl
            | some v =>
              have h1 := H.out.softIn i (by rw [hf]; exact Option.some_ne_none _)
              have h2 := HL0.out i (wf_of H.out.ok h1.1 h1.2)
              rw [hf, h2] at hc
              simp at hc
          have h3 := H.out.softAt i
          rw [hfn] at h3
          rw [H.out.firmAt i]
          rcases lst_sft D.soft i (D.firm i) with ⟨_, h4⟩ | ⟨h4, _⟩
          · exact h4.symm
          · exact absurd h3 h4
      · unfold ffL at hi
        split at hi
        · rename_i hc
          exact H.out.softIn i (fun e => by rw [e] at hc; simp at hc)
        · exact H.out.firmIn i hi
      · unfold ffL at hi
        split at hi
        · injection hi with hi
          rw [← hi]
          exact H.out.ok.read i
        · have h5 := H.out.firmAt i
          rw [hi] at h5
          have h6 := H.out.ok.firm i
          rw [← h5] at h6
          exact h6
    · intro x v w1 hwx hlx hfx hrg1 hlt hg1 hs1 hen
      have hsa := H.out.softAt x
      rw [hfx] at hsa
      obtain ⟨hne, g, cap, rfl, hFg, hown⟩ := hsa
      have hro := H.out.row hfx
      have hlv : ((sftOf D.soft x).getLast hne).2 = D.read x := by
        rcases lst_sft D.soft x (D.firm x) with ⟨h3, _⟩ | ⟨_, h3⟩
        · exact absurd h3 hne
        · exact h3
      have hfr1 : Fr (· = mf) w w1 := HL.out.fr.trans (Fr.of_grown (F := fun k => k = w.heap.size) hg1 fun k hk => (Option.some.inj hk).symm) fun j hj => .inr (by omega)
      have hown1 := owns_block hown (hfr1.block g (H.out.lt g hFg) hro.2.1)
      have kL : ∀ W, Below w1.heap.size w1 W → Calls Tryd.prog 23 #[.slice (some ⟨g, 0, none⟩) (sftOf D.soft x).length cap] W fun e w' => e = .returned (pgv (D.read x)) ∧ Below W.heap.size W w' := fun W hW => by
        rw [← hlv]
        exact last_any hne (H.out.s64 x) (by have := sftOf_le D.soft x; have := H.out.ok.few; omega) (owns_block hown1 (hW.block g (owns_lt hown1).1))
      have hfm1 : MapOf Tryd.prog 3 w1 mf 2048 (fun i => (ffL (fun i => some (D.read i)) ff fs left i).map pgv) := HL.out.firm.kept hg1 (fun e => by have := Option.some.inj e; have := H.out.lt mf H.out.inf; omega)
      have c3 := hfr1.cell H.out.c3 H.out.ne_bf
      have HKL := Lib.hid kL
      have HRG1 := Lib.hid hrg1
      have HLT := Lib.hid hlt
      have HFR1 := Lib.hid hfr1
      have HFM1 := Lib.hid hfm1
      have HFX := Lib.hid hfx
      clear hown hown1 kL hfm1 hfr1 hlv hro hrg1 hlt hg1 hs1 hlx hfx hwx
      go_wp2_with fail
      go_region_held3 (fun W => W.cell? ⟨b, 3, none⟩ = some (.map (some mf)))
        (first | (exact c3) | (assumption))
        (first
          | (go_at_call 23; refine (HKL.out w1.drew (Below.refl _ _).drew).mono ?_; rintro e w2 ⟨rfl, hb2⟩; refine FlSt.put (b := b) H.out (Nat.le_refl _) HFX.out HRG1.out HFM1.out HFR1.out (w2 := w2) ⟨hb2.os, hb2.tape, hb2.output, hb2.size, hb2.block⟩ ?_; intro w3 hrun hst3 hlf3 hc3; have hc2 := (hb2.cell (p := ⟨b, 3, none⟩) (World.block_lt_of_cell? w1 _ c3)).trans c3))
      go_wp2_with fail
      go_roundg (w3.rangeLeft ms w.heap.size)
      case measure =>
        have h1 := HGG.out
        have h2 := HLT.out
        have h3 := hlf3.out
        omega
      case rel => exact ⟨_, hst3, rfl⟩
end Go.Proofs.YtgjakhfmjnpkcaaDoor
