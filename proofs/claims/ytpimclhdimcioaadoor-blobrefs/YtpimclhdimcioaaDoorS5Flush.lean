/-
  Contracts of the landed disk's Flush, of a disk and of nil. Conditions: as each says.
-/
import Derived.Test.YtpimclhdimcioaaDoorS5Write
namespace Go.Proofs.YtpimclhdimcioaaDoor
open Go.RowKit Go.Maps

/-- What is firm while a range over the writes that aren't is under way. -/
def ffL (new : Int → Option PgL) (ff : Int → Option PgL) (fs : Int → Option Value) (left : Int → Bool) (i : Int) : Option PgL := if (fs i).isSome && !(left i) then new i else ff i
theorem ffL_start (new ff : Int → Option PgL) (fs : Int → Option Value) : ffL new ff fs (fun i => (fs i).isSome) = ff := by
  funext i
  unfold ffL
  rw [if_neg (by cases h : fs i <;> simp [h])]
theorem ffL_next {new ff : Int → Option PgL} {fs : Int → Option Value} {left : Int → Bool} {x : Int} {v : Value} (hx : fs x = some v) : (fun z => if z = x then new x else ffL new ff fs left z) = ffL new ff fs (fun z => left z && !(z == x)) := by
  funext z
  by_cases e : z = x
  · subst e
    rw [if_pos rfl, ffL, if_pos (by simp [hx])]
  · rw [if_neg e]
    unfold ffL
    have : (z == x) = false := by simp [e]
    simp only [this, Bool.not_false, Bool.and_true]
theorem ffL_same {new ff : Int → Option PgL} {fs : Int → Option Value} {left : Int → Bool} {x : Int} (hx : left x = true) : ffL new ff fs left x = ff x := by
  unfold ffL
  rw [if_neg (by simp [hx])]
theorem map_next {g : Int → Option PgL} {x : Int} {n : Option PgL} : (fun z => if z = x then n.map pgv else (g z).map pgv) = fun z => (if z = x then n else g z).map pgv := by
  funext z
  split <;> rfl

section
variable {w wx : World} {F : Nat → Prop} {b : Nat} {D : DskV} {mf ms nf ns : Nat} {ff : Int → Option PgL} {fs : Int → Option Value}
/-- A page is made firm. -/
theorem firm_put {D : DskV} (hok : D.ok) {f : Int → Option Value} (hm : MapOf Tryd.prog 3 wx mf 2048 f) (hin : ∀ j, f j ≠ none → 0 ≤ j ∧ j < D.size) {x : Int} (h0 : 0 ≤ x) (h1 : x < D.size) (v : Value) :
    ∃ w', (Instr.mapUpdate 58 (.map (some mf)) (.int .i64 x) v).run Tryd.prog wx = .ok () w' ∧ MapOf Tryd.prog 3 w' mf 2048 (fun z => if z = x then some v else f z) ∧ wx.grownBy w' (some mf) := by
  obtain ⟨w', h2, h3, h4⟩ := hm.put (t := 58) (e := 40) Tryd.underlying3 Tryd.underlying58 (by unfold maxLen; omega) (wf_of hok h0 h1) v
  refine ⟨w', h2, h3.tight Tryd.underlying3 2048 fun j hj => ?_, h4⟩
  have := hok.hi
  by_cases e : j = x
  · omega
  · rw [if_neg e] at hj
    have := hin j hj
    omega
/-- The writes that aren't firm are forgotten. -/
theorem DskIn.dropped (h : DskIn w F b D mf ms nf ns ff fs) (hfr : Fr (· = mf) w wx) {ff' : Int → Option PgL} {D' : DskV} {nf' : Nat} (hm : MapOf Tryd.prog 3 wx mf nf' (fun i => (ff' i).map pgv)) (hat : ∀ i, (ff' i).getD zpg = D'.firm i) (hin : ∀ i, ff' i ≠ none → 0 ≤ i ∧ i < D.size) (hpl : ∀ i l, ff' i = some l → l.length = 64)
    (e1 : D'.size = D.size) (e2 : D'.down = D.down) (e3 : D'.budget = D.budget) (e4 : D'.soft = []) :
    DskIn (((wx.setCell ⟨b, 4, none⟩ (.map (some wx.heap.size))).setCell ⟨b, 5, none⟩ (.int .i64 0)).alloc (.map #[] 0)) (fun k => F k ∨ k = wx.heap.size) b D' mf wx.heap.size nf' 0 ff' (fun _ => none)
      ∧ Fr F w (((wx.setCell ⟨b, 4, none⟩ (.map (some wx.heap.size))).setCell ⟨b, 5, none⟩ (.int .i64 0)).alloc (.map #[] 0)) := by
  have hlb := h.lt b h.inb
  have hlf := h.lt mf h.inf
  have hs := hfr.size
  have hbx : wx.heap[b]? = some (.cells (D.cells mf ms) 61 (0, 0)) := (hfr.block b hlb h.ne_bf).trans h.cells
  have hsz : ((wx.setCell ⟨b, 4, none⟩ (.map (some wx.heap.size))).setCell ⟨b, 5, none⟩ (.int .i64 0)).heap.size = wx.heap.size := by simp [World.setCell]
  have hset : ∀ k, k ≠ b → k < wx.heap.size → (((wx.setCell ⟨b, 4, none⟩ (.map (some wx.heap.size))).setCell ⟨b, 5, none⟩ (.int .i64 0)).alloc (.map #[] 0)).heap[k]? = wx.heap[k]? := fun k hk hl =>
    ((Below.heap_alloc _ _ _ (by rw [hsz]; exact hl)).trans (Below.heap_setCell _ _ _ _ hk)).trans (Below.heap_setCell _ _ _ _ hk)
  have hff : ∀ i, (D'.firm i).length = 64 := fun i => by
    rw [← hat i]
    cases hf : ff' i with
    | none => exact zpg_len
    | some l => exact hpl i l hf
  refine ⟨⟨⟨by rw [e1]; exact h.ok.lo, by rw [e1]; exact h.ok.hi, by rw [e3]; exact h.ok.bud, hff, by rw [e4]; exact fun x hx => (List.not_mem_nil hx).elim, by rw [e4]; exact fun x hx => (List.not_mem_nil hx).elim, by rw [e4]; exact Nat.zero_le _⟩, ?_, .inl h.inb, .inl h.inf, .inr rfl, ?_, by omega, ?_, hat, by rw [e1]; exact hin, ?_, fun i => by rw [e4]; exact sftOf_nil i, fun i j g n c n' c' hx => by cases hx⟩, ?_⟩
  · rw [Below.heap_alloc _ _ _ (by rw [hsz]; omega), set_of (set_of hbx 4 _) 5 _]
    simp [DskV.cells, e1, e2, e3, e4]
  · intro k hk
    rcases hk with hk | rfl
    · have := h.lt k hk
      simp [World.setCell]
      omega
    · simp [World.setCell]
  · exact hm.of_block (hset mf h.ne_bf.symm (by omega))
  · have := mapOf_made Tryd.prog 3 ((wx.setCell ⟨b, 4, none⟩ (.map (some wx.heap.size))).setCell ⟨b, 5, none⟩ (.int .i64 0))
    rw [hsz] at this
    exact this
  · exact (((hfr.mono fun k hk => .inl (hk ▸ h.inf)).setCell (.inl h.inb) _).setCell (.inl h.inb) _).alloc _
end

attribute [local go_sem ↓] ldw_pg stw_pg ldw_wr stw_wr alw_wr alw_pg
attribute [local go_sem] isPgV_ptr pgAtV_ptr thereV_ptr setV_ptr cellsV_agg isWrV_ptr wrAtV_ptr thereW_ptr cellsV_wr
/-- What a flush has made firm so far. -/
structure FlSt (w : World) (D : DskV) (mf ms r : Nat) (ff : Int → Option PgL) (fs : Int → Option Value) (left : Int → Bool) (wx : World) : Prop where
  rg : RgOf Tryd.prog 3 wx ms r 2048 fs left
  firm : MapOf Tryd.prog 3 wx mf 2048 (fun i => (ffL (fun i => some (D.read i)) ff fs left i).map pgv)
  fr : Fr (· = mf) w wx
theorem FlSt.put {w w1 w2 : World} {F : Nat → Prop} {b : Nat} {D : DskV} {mf ms r nf ns : Nat} {ff : Int → Option PgL} {fs : Int → Option Value} (h : DskIn w F b D mf ms nf ns ff fs) {left : Int → Bool} (hr : w.heap.size ≤ r) {x : Int} {v : Value} (hx : fs x = some v)
    (hrg : RgOf Tryd.prog 3 w1 ms r 2048 fs (fun z => left z && !(z == x))) (hfm : MapOf Tryd.prog 3 w1 mf 2048 (fun i => (ffL (fun i => some (D.read i)) ff fs left i).map pgv)) (hfr : Fr (· = mf) w w1) (hb : Below w1.heap.size w1 w2)
    {G : Prop} (k : ∀ w3, (Instr.mapUpdate 58 (.map (some mf)) (.int .i64 x) (pgv (D.read x))).run Tryd.prog w2 = .ok () w3 → Hid (FlSt w D mf ms r ff fs (fun z => left z && !(z == x)) w3) → Hid (w3.rangeLeft ms r = w1.rangeLeft ms r) → w3.cell? ⟨b, 3, none⟩ = some (.map (some mf)) → G) : G := by
  have hxi := h.softIn x (by rw [hx]; exact Option.some_ne_none _)
  obtain ⟨w3, h1, h2, h3⟩ := firm_put h.ok (hfm.below hb hfm.lt) (fun j hj => by
    have hj2 : ffL (fun i => some (D.read i)) ff fs left j ≠ none := fun e => hj (by rw [e]; rfl)
    unfold ffL at hj2
    split at hj2
    · rename_i hc
      exact h.softIn j (fun e => by rw [e] at hc; simp at hc)
    · exact h.firmIn j hj2) hxi.1 hxi.2 (pgv (D.read x))
  have hfr2 : Fr (· = mf) w w2 := hfr.trans (Fr.of_below hb) fun j hj => .inl hj
  have hfr3 : Fr (· = mf) w w3 := hfr2.trans (Fr.of_grown (F := (· = mf)) h3 fun k hk => (Option.some.inj hk).symm) fun j hj => .inl hj
  have hb3 := hrg.of_blocks (w' := w3) ((h3.block ms (Nat.lt_of_lt_of_le hrg.map.lt hb.size) (fun e => h.ne (Option.some.inj e).symm)).trans (hb.block ms hrg.map.lt)) ((h3.block r (Nat.lt_of_lt_of_le hrg.lt hb.size) (fun e => by
    have e := Option.some.inj e
    have := h.lt mf h.inf
    omega)).trans (hb.block r hrg.lt))
  refine k w3 h1 ⟨hb3.1, ?_, hfr3⟩ hb3.2 (hfr3.cell h.c3 h.ne_bf)
  rw [← ffL_next (new := fun i => some (D.read i)) (ff := ff) hx]
  have e := map_next (g := ffL (fun i => some (D.read i)) ff fs left) (x := x) (n := some (D.read x))
  rw [← e]
  exact h2

end Go.Proofs.YtpimclhdimcioaaDoor
