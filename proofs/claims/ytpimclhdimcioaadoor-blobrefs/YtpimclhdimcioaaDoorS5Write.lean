/-
  Contracts of the landed disk's Write, of a disk and of nil. Conditions: as each says.
-/
import Derived.Test.YtpimclhdimcioaaDoorS5Read
import Derived.Test.YtpimclhdimcioaaDoorS5Del
import Derived.Deep.RegionHeld3
import Derived.Deep.CutRange
import Derived.Maps.AppendAt
namespace Go.Proofs.YtpimclhdimcioaaDoor
open Go.RowKit Go.Maps

attribute [local go_sem ↓] ldw_pg stw_pg ldw_wr stw_wr alw_wr alw_pg bdw_wr bsw_wr
attribute [local go_sem] isPgV_ptr pgAtV_ptr thereV_ptr setV_ptr cellsV_agg isWrV_ptr wrAtV_ptr thereW_ptr cellsV_wr bldW_agg sl1_agg

set_option maxRecDepth 10000 in
theorem idx_nil (f : Value) (w : World) : Calls Tryd.prog 38 #[.slice none 0 0, f] w fun e w' => e = .returned (.int .i64 (-1)) ∧ w = w' := by
  go_enter Tryd.func38, Tryd.ntmps38
  go_wp2
  go_loopg [5, 8] 0 (fun gg _ v8 wx => v8 = .int .i64 0 ∧ w = wx)
  case atStart => exact ⟨rfl, rfl⟩
  case round =>
    obtain ⟨rfl, rfl⟩ := hrel
    go_wp2
    go_ret
    exact ⟨rfl, rfl⟩
set_option maxRecDepth 10000 in
theorem del_nil (f : Value) (w : World) : Calls Tryd.prog 30 #[.slice none 0 0, f] w fun e w' => e = .returned (.slice none 0 0) ∧ w = w' := by
  go_enter Tryd.func30, Tryd.ntmps30
  go_wp2_with fail
  refine (idx_nil _ _).mono ?_
  rintro e w' ⟨rfl, rfl⟩
  go_wp2
  go_ret
  exact ⟨rfl, rfl⟩

/-- What a sector's row becomes: the value that stands there, the row without the bit's. -/
def softV (o : Option Value) : Value := o.getD (.slice none 0 0)
theorem del_both {w : World} {F : Nat → Prop} {l : List WrL} {o : Option Value} (h : SoftAt w F l o) (h64 : ∀ x ∈ l, x.2.length = 64) (hf : l.length ≤ 1000000) {B : Nat} {bit : Int} (hB : w.cell? ⟨B, 0, none⟩ = some (.int .i64 bit)) (hne : (softV o).ownBlock ≠ some B) :
    Calls Tryd.prog 30 #[softV o, .func (.func 29) #[] #[.pointer (some ⟨B, 0, none⟩)]] w fun e w' => ∃ v, e = .returned v ∧ Fr (fun k => (softV o).ownBlock = some k) w w' ∧ v.ownBlock = (softV o).ownBlock ∧ w'.ownsRow 0 70 65 v (l.filter (kp bit)).length ((l.filter (kp bit)).flatMap wCells) := by
  cases o with
  | none =>
    have h : l = [] := h
    subst h
    refine (del_nil _ w).mono ?_
    rintro e w' ⟨rfl, rfl⟩
    exact ⟨_, rfl, Fr.refl _ _, rfl, ⟨rfl, .inl ⟨rfl, rfl⟩⟩⟩
  | some v =>
    obtain ⟨h1, g, cap, rfl, h2, h3⟩ := h
    have hne2 : B ≠ g := fun e => hne (by rw [e]; rfl)
    refine (del_any h64 hf h3 hB hne2).mono ?_
    rintro e w' ⟨rfl, hfr, ho⟩
    exact ⟨_, rfl, hfr.mono (fun k hk => .inl (by rw [hk]; rfl)), rfl, ho⟩

theorem DskIn.softIn {w : World} {F : Nat → Prop} {b : Nat} {D : DskV} {mf ms nf ns : Nat} {ff : Int → Option PgL} {fs : Int → Option Value} (h : DskIn w F b D mf ms nf ns ff fs) (i : Int) (hi : fs i ≠ none) : 0 ≤ i ∧ i < D.size := by
  have h1 := h.softAt i
  cases hf : fs i with
  | none => exact absurd hf hi
  | some v =>
    rw [hf] at h1
    obtain ⟨h2, _⟩ := h1
    obtain ⟨x, hx⟩ := List.exists_mem_of_ne_nil _ h2
    exact h.ok.place _ (sftOf_mem D.soft i x hx).2
theorem DskIn.s64 {w : World} {F : Nat → Prop} {b : Nat} {D : DskV} {mf ms nf ns : Nat} {ff : Int → Option PgL} {fs : Int → Option Value} (h : DskIn w F b D mf ms nf ns ff fs) (i : Int) : ∀ x ∈ sftOf D.soft i, x.2.length = 64 := fun x hx => h.ok.soft (i, x.2) (sftOf_mem D.soft i x hx).2

/-- A disk whose row at i has become another one: one write more. -/
theorem DskIn.wrote {wv w6 w7 : World} {F : Nat → Prop} {b : Nat} {D : DskV} {mf ms nf ns : Nat} {ff : Int → Option PgL} {fs : Int → Option Value} (h : DskIn wv F b D mf ms nf ns ff fs) {i : Int} {p : PgL} (hi0 : 0 ≤ i) (hi1 : i < D.size) (hp : p.length = 64) (hfew : D.soft.length < 1000)
    (hF6 : Fr (fun k => (softV (fs i)).ownBlock = some k) wv w6) {g' cap' : Nat} {L : List WrL} (hL : sftOf (D.soft ++ [(i, p)]) i = L)
    (ho6 : w6.ownsRow 0 70 65 (.slice (some ⟨g', 0, none⟩) L.length cap') L.length (L.flatMap wCells))
    (hg' : (softV (fs i)).ownBlock = some g' ∨ wv.heap.size ≤ g')
    {ns' : Nat} (hm : MapOf Tryd.prog 3 w7 ms ns' (fun x => if x = i then some (.slice (some ⟨g', 0, none⟩) L.length cap') else fs x)) (hg7 : w6.grownBy w7 (some ms)) :
    DskIn (w7.setCell ⟨b, 5, none⟩ (.int .i64 ((D.soft.length : Int) + 1))) (fun k => F k ∨ k = g') b { D with soft := D.soft ++ [(i, p)] } mf ms nf ns' ff (fun x => if x = i then some (.slice (some ⟨g', 0, none⟩) L.length cap') else fs x)
      ∧ Fr F wv (w7.setCell ⟨b, 5, none⟩ (.int .i64 ((D.soft.length : Int) + 1))) := by
  have hrow : ∀ k, (softV (fs i)).ownBlock = some k → k ≠ b ∧ k ≠ mf ∧ k ≠ ms ∧ F k ∧ k < wv.heap.size ∧ ∃ n c, fs i = some (.slice (some ⟨k, 0, none⟩) n c) := fun k hk => by
    have h1 := h.softAt i
    cases hf : fs i with
    | none => rw [hf] at hk; cases hk
    | some v =>
      rw [hf] at h1 hk
      obtain ⟨_, g, cap, rfl, _, _⟩ := h1
      obtain rfl : g = k := by simpa [softV, Value.ownBlock] using hk
      have h3 := h.row hf
      exact ⟨h3.1, h3.2.1, h3.2.2.1, h3.2.2.2, h.lt _ h3.2.2.2, _, _, rfl⟩
  have hlb := h.lt b h.inb
  have hlf := h.lt mf h.inf
  have hls := h.lt ms h.ins
  -- old blocks but the row and the map are as they were
  have hold : ∀ k, k < wv.heap.size → (softV (fs i)).ownBlock ≠ some k → k ≠ ms → w7.heap[k]? = wv.heap[k]? := fun k hk h1 h2 =>
    (hg7.block k (Nat.lt_of_lt_of_le hk hF6.size) (fun e => h2 (by injection e))).trans (hF6.block k hk h1)
  have hset : ∀ k, k ≠ b → (w7.setCell ⟨b, 5, none⟩ (.int .i64 ((D.soft.length : Int) + 1))).heap[k]? = w7.heap[k]? := fun k hk => Below.heap_setCell _ _ _ _ hk
  have hb7 : w7.heap[b]? = some (.cells (D.cells mf ms) 61 (0, 0)) := (hold b hlb (fun e => (hrow b e).1 rfl) h.ne_bs).trans h.cells
  have hgb : g' ≠ b := by
    rcases hg' with e | e
    · exact (hrow _ e).1
    · omega
  have hgs : g' ≠ ms := by
    rcases hg' with e | e
    · exact (hrow _ e).2.2.1
    · omega
  have hsz : wv.heap.size ≤ w7.heap.size := Nat.le_trans hF6.size hg7.size
  have hg6 := (owns_lt ho6).1
  have hne : L ≠ [] := by
    rw [← hL, sftOf_snoc, if_pos rfl]
    simp
  refine ⟨⟨?_, ?_, .inl h.inb, .inl h.inf, .inl h.ins, ?_, h.ne, ?_, h.firmAt, h.firmIn, ?_, ?_, ?_⟩, ?_⟩
  · obtain ⟨a1, a2, a3, a4, a5, a6, a7⟩ := h.ok
    refine ⟨a1, a2, a3, a4, fun x hx => ?_, fun x hx => ?_, ?_⟩
    · rcases List.mem_append.1 hx with hx | hx
      · exact a5 x hx
      · rw [List.mem_singleton.1 hx]; exact hp
    · rcases List.mem_append.1 hx with hx | hx
      · exact a6 x hx
      · rw [List.mem_singleton.1 hx]; exact ⟨hi0, hi1⟩
    · show (D.soft ++ [(i, p)]).length ≤ 1000
      simp
      omega
  · rw [set_of hb7]
    simp [DskV.cells]
  · intro k hk
    rcases hk with hk | rfl
    · have := h.lt k hk
      simp [World.setCell]
      omega
    · have := hg7.size
      simp [World.setCell]
      omega
  · exact h.firm.of_block ((hset mf h.ne_bf.symm).trans (hold mf hlf (fun e => (hrow mf e).2.1 rfl) h.ne))
  · exact hm.of_block (hset ms h.ne_bs.symm)
  · intro x
    dsimp only
    by_cases e : x = i
    · subst e
      rw [if_pos rfl, hL]
      exact ⟨hne, g', cap', rfl, .inr rfl, owns_block ho6 ((hset g' hgb).trans (hg7.block g' hg6 (fun e => hgs (by injection e))))⟩
    · rw [if_neg e, sftOf_snoc, if_neg e]
      refine (h.softAt x).keep (fun _ hk => .inl hk) fun g n c ex => ?_
      have h3 := h.row ex
      exact (hset g h3.1).trans (hold g (h.lt g h3.2.2.2) (fun eo => by
        obtain ⟨_, _, _, _, _, n2, c2, e2⟩ := hrow g eo
        exact e (h.apart _ _ _ _ _ _ _ ex e2)) h3.2.2.1)
  · have hnew : ∀ y n c, fs y = some (.slice (some ⟨g', 0, none⟩) n c) → y = i := fun y n c hy => by
      have h3 := h.row hy
      have h4 := h.lt g' h3.2.2.2
      rcases hg' with e | e
      · obtain ⟨_, _, _, _, _, n2, c2, e2⟩ := hrow g' e
        exact h.apart _ _ _ _ _ _ _ hy e2
      · omega
    intro x y g n c n' c' hx hy
    by_cases ex : x = i
    · by_cases ey : y = i
      · rw [ex, ey]
      · rw [if_pos ex] at hx
        rw [if_neg ey] at hy
        cases hx
        exact absurd (hnew y _ _ hy) ey
    · by_cases ey : y = i
      · rw [if_neg ex] at hx
        rw [if_pos ey] at hy
        cases hy
        exact absurd (hnew x _ _ hx) ex
      · rw [if_neg ex] at hx
        rw [if_neg ey] at hy
        exact h.apart _ _ _ _ _ _ _ hx hy
  · have h1 : Fr F wv w6 := hF6.mono fun k hk => .inl (hrow k hk).2.2.2.1
    have h2 : Fr F w6 w7 := Fr.of_grown hg7 fun k hk => by
      injection hk with hk
      exact hk ▸ h.ins
    exact (h1.trans h2 fun j hj => .inl hj).setCell (.inl h.inb) _
end Go.Proofs.YtpimclhdimcioaaDoor
