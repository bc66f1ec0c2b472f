/-
  The contract of the document's own Over (package shaleref10): a right layer laid over a tree. Condition: both lie in memory; the tree has at most 800 entries.
-/
import Derived.Test.YtemnlolkmjdefaaGreatDoorS10Under
import Derived.Test.YtemnlolkmjdefaaGreatDoorS10Tree
import Derived.Test.YtemnlolkmjdefaaGreatDoorS9RefW
namespace Go.Proofs.YtemnlolkmjdefaaGreatDoor
open Go.RowKit

/-- What stays of a tree's entries when one is laid over it, ahead of it. -/
def keepE (e x : Ent) : Bool := if e.2.1 = 2 then (decide (pl x ≠ pl e) || (x.2.1 == 2)) else (decide (pl x ≠ pl e) && !upx (pl x) (pl e))
def flt (e : Ent) (o : List Ent) : List Ent := o.filter (keepE e)
/-- Is its directory there? -/
def hasD (e : Ent) (o : List Ent) : Bool := o.any fun x => decide (pl x = pl e) && (x.2.1 == 2) && (e.2.1 == 2)
theorem flt_take (e : Ent) (o : List Ent) (m : Nat) (h : m < o.length) : flt e (o.take (m + 1)) = flt e (o.take m) ++ (if keepE e o[m] then [o[m]] else []) := filter_take _ m h
theorem hasD_take (e : Ent) (o : List Ent) (m : Nat) (h : m < o.length) : hasD e (o.take (m + 1)) = (hasD e (o.take m) || (decide (pl o[m] = pl e) && (o[m].2.1 == 2) && (e.2.1 == 2))) := by
  unfold hasD
  rw [take_get o m h, List.any_append]
  simp
theorem flt_rst {e : Ent} {o : List Ent} (ho : TR o) (he : rE e = true) (hk : e.2.1 ≠ 2) : flt e o = rst o (pl e) := by
  unfold flt rst
  apply List.filter_congr
  intro x hx
  obtain ⟨p1, p2⟩ := rE_isP he
  obtain ⟨q1, _⟩ := rE_isP (ho.1.1 x hx)
  unfold keepE
  rw [if_neg hk, upx_und q1 p1 p2, Bool.and_comm]
theorem flt_dir {e : Ent} {o : List Ent} (ho : TR o) (hk : e.2.1 = 2) (hd : hasD e o = true) : flt e o = o ∧ wth o (dE e.1) = o := by
  unfold hasD at hd
  obtain ⟨x, hx, h1⟩ := List.any_eq_true.1 hd
  simp only [Bool.and_eq_true, decide_eq_true_eq, beq_iff_eq] at h1
  obtain ⟨⟨h1, h2⟩, _⟩ := h1
  have hxe : x = dE e.1 := by
    rw [dir_eq (ho.1.1 x hx) h2]
    have : x.1 = e.1 := ba_ext h1
    rw [this]
  refine ⟨List.filter_eq_self.2 fun y hy => ?_, wth_mem ho.1.2.1 (hxe ▸ hx)⟩
  unfold keepE
  rw [if_pos hk]
  by_cases hye : pl y = pl e
  · have : y = x := asc_inj ho.1.2.1 hy hx (hye.trans h1.symm)
    rw [this, h2]
    simp
  · simp [hye]
theorem wth_flt {e : Ent} {o : List Ent} (hk : e.2.1 = 2) (hd : hasD e o = false) : wth (flt e o) (dE e.1) = wth o (dE e.1) := by
  have hf : flt e o = wout o (pl e) := by
    unfold flt wout
    apply List.filter_congr
    intro x hx
    unfold keepE
    rw [if_pos hk]
    by_cases hxe : pl x = pl e
    · have := List.any_eq_false.1 hd x hx
      simp only [hxe, hk] at this
      simp at this
      simp [hxe, this]
    · simp [hxe]
  rw [hf]
  unfold wth wout
  rw [List.filter_filter, List.filter_filter]
  congr 1
  · apply List.filter_congr
    intro x _
    cases hx : lt8 (pl x) (pl (dE e.1)) with
    | false => rfl
    | true => have : pl x ≠ pl e := lt8_ne hx
              simp [this]
  · congr 1
    apply List.filter_congr
    intro x _
    cases hx : lt8 (pl (dE e.1)) (pl x) with
    | false => rfl
    | true => have : pl x ≠ pl e := (lt8_ne hx).symm
              simp [this]
theorem flat_len10 : ∀ t : List Ent, (t.flatMap enc).length = t.length * 3
  | [] => rfl
  | e :: r => by
    have := flat_len10 r
    rw [List.flatMap_cons, List.length_append, this, List.length_cons]
    simp
    omega
theorem flat_one10 {t : List Ent} {u : Value} (h : u ∈ t.flatMap enc) : u.oneCell' = true := by
  obtain ⟨e, _, hu⟩ := List.mem_flatMap.1 h
  rcases List.mem_cons.1 hu with rfl | hu
  · rfl
  rcases List.mem_cons.1 hu with rfl | hu
  · rfl
  rcases List.mem_cons.1 hu with rfl | hu
  · rfl
  cases hu
theorem ents_src {w : World} {a : Option Addr} {cap : Nat} {t : List Ent} (h : Ents w a cap t) : (∀ ad, a = some ad → ∀ j u, (t.flatMap enc)[j]? = some u → w.cell? (ad.add j) = some u) ∧ (a = none → t.length = 0) := by
  rcases h.2 with rfl | ⟨b, off, rfl, _, hc⟩
  · exact ⟨fun _ _ j u hu => by simp at hu, fun _ => rfl⟩
  · refine ⟨fun ad had j u hu => ?_, fun h => by cases h⟩
    obtain rfl := Option.some.inj had
    have hj : j = j / 3 * 3 + j % 3 := by omega
    rw [hj, flat_get t (j / 3) (j % 3) (by omega)] at hu
    obtain ⟨e, he, hu⟩ := Option.bind_eq_some_iff.1 hu
    have := hc (j / 3) e he (j % 3) u hu
    rw [Go.WideShapes.add_plain]
    rw [show off + j / 3 * 3 + j % 3 = off + j by omega] at this
    exact this
theorem own_empty (w : World) : OwnE (w.alloc (.cells #[] 41)) w.heap.size (.slice (some ⟨w.heap.size, 0, none⟩) 0 0) [] :=
  ⟨by simp, .inr ⟨w.heap.size, 0, #[], rfl, Nat.le_refl _, heap_alloc_new _ _, by simp⟩⟩
attribute [local go_sem ↓] old_ldi old_lds old_lde3 old_eqen old_neen
attribute [local go_sem] oldC_forall isC1_ptr isS1_ptr c1V_ptr isE3_ptr e3V_ptr isEv_agg evEq_agg eta_ent
set_option maxRecDepth 10000 in
set_option maxHeartbeats 8000000 in
theorem refOver10 (t l : List Ent) (a a2 : Option Addr) (cap cap2 : Nat) (w : World) (h : Ents w a cap t) (h2 : Ents w a2 cap2 l) (ht : TR t) (hl : RightL l) (hz : t.length ≤ 800) : Calls Tryz.prog 60 #[.slice a t.length cap, .slice a2 l.length cap2] w fun e w' => ∃ a' cap', e = .returned (.slice a' (over t l).length cap') ∧ Ents w' a' cap' (over t l) ∧ Below w.heap.size w w' := by
  obtain ⟨ie, hie, hz0, hsz, hby⟩ := info_parts infoEn
  have KI := Lib.hid (And.intro hie (And.intro hz0 (And.intro hsz hby)))
  have HE := Lib.hid h
  have HE2 := Lib.hid h2
  have HT := Lib.hid ht
  have HL := Lib.hid hl
  have HZ := Lib.hid hz
  clear h h2 ht hl hz hie hz0 hsz hby
  go_enter Tryz.func60, Tryz.ntmps60
  go_wp2_with (at_builtin; refine Stopped.go ?_)
  unfold Stopped
  refine wl_append_any (by rfl) _ _ 38 (by rfl) w.heap.size 41 ie _ 3 40 Tryz.underlying38 KI.out.1 KI.out.2.1 KI.out.2.2.1 KI.out.2.2.2 rfl (by decide) (.slice (some ⟨w.heap.size, 0, none⟩) 0 0) 0 [] (by rfl) (own_empty w) a t.length cap (t.flatMap enc) (by rfl) (flat_len10 t) (ents_src (HE.out.below ((Below.refl _ _).alloc (Nat.le_refl _) _))).1 (ents_src HE.out).2 (fun u hu => flat_one10 hu) (by have := HZ.out; unfold maxLen; omega) (by have := HZ.out; omega) (by simp) ?_
  intro v0 w0 ho hg
  have HB0 := Lib.hid (((Below.refl w.heap.size w).alloc (Nat.le_refl _) (.cells #[] 41)).grown hg (by simp) (fun k hk => (ownE_blk (own_empty w) k hk).1))
  have ho' : OwnE w0 w.heap.size v0 t := by unfold OwnE; rw [show t.length = 0 + t.length by omega]; exact ho
  obtain ⟨a0, cap0, hv0, hE0⟩ := ents_of_own ho'
  subst hv0
  have HE0 := Lib.hid hE0
  clear ho hg ho' hE0
  go_wp2
  go_loopg [5, 6] l.length (fun g v i wx => ∃ (n : Nat) (a5 : Option Addr) (cap5 : Nat) (o : List Ent), v = .slice a5 o.length cap5 ∧ i = .int .i64 (n : Int) ∧ n + g = l.length ∧ Hid (o = over t (l.take n)) ∧ Hid (Ents wx a5 cap5 o) ∧ Hid (Below w.heap.size w wx))
  case atStart => exact ⟨0, a0, cap0, t, rfl, rfl, by omega, rfl, HE0.out, HB0.out⟩
  case round =>
    obtain ⟨n, a5, cap5, o, rfl, rfl, hn, HO, HEO, HB⟩ := hrel
    by_cases hlt : n < l.length
    · have hlt' : (n : Int) < (l.length : Int) := by omega
      have hwn : IntKind.i64.wrap ((n : Int) + 1) = (n : Int) + 1 := IntWalk.i64_in _ (by have := HL.out.1; omega)
      have HTO := Lib.hid (show TR o by rw [HO.out]; exact tr_over HT.out (rl_take HL.out.2 n))
      have HOL := Lib.hid (show o.length ≤ 864 by
        rw [HO.out]
        have h1 := over_len (l.take n) t
        have := HL.out.1
        have := HZ.out
        rw [List.length_take] at h1
        omega)
      have HX := Lib.hid (HL.out.2.1 _ (List.getElem_mem hlt))
      have HNX := Lib.hid (show over t (l.take (n + 1)) = over1 o l[n] by rw [take_get l n hlt, over_snoc, ← HO.out])
      obtain ⟨x, hx⟩ : ∃ x, l[n] = x := ⟨_, rfl⟩
      rw [hx] at HX HNX
      have HXK := Lib.hid hx
      have HXS := Lib.hid (show x.1.size ≤ 54 by
        have := isP_len (rE_isP HX.out).1
        rw [← Lib.size_eq] at this
        exact this)
      clear hx
      obtain ⟨wb, hwb⟩ : ∃ wb, wb = wr := ⟨_, rfl⟩
      subst hwb
      go_wp2
      go_loopg [7, 8, 9] o.length (fun g v d i wx => ∃ (m : Nat) (db : Bool), d = .bool db ∧ i = .int .i64 (m : Int) ∧ m + g = o.length ∧ Hid (db = hasD x (o.take m)) ∧ Hid (OwnE wx wb.heap.size v (flt x (o.take m))) ∧ Hid (Below wb.heap.size wb wx))
      case atStart => exact ⟨0, false, rfl, rfl, by omega, rfl, by simpa [Hid, flt] using ownE_nil _ _, Below.refl _ _⟩
      case round =>
        obtain ⟨m, db, rfl, rfl, hm, HD, HOW, HBI⟩ := hrel
        by_cases hlm : m < o.length
        · have hlm' : (m : Int) < (o.length : Int) := by omega
          have hwm : IntKind.i64.wrap ((m : Int) + 1) = (m : Int) + 1 := IntWalk.i64_in _ (by have := HOL.out; omega)
          obtain ⟨b, off, e9, _, hc⟩ := Ents.at HEO.out HBI.out hlm
          have HFT := Lib.hid (flt_take x o m hlm)
          have HDT := Lib.hid (hasD_take x o m hlm)
          have HYR := Lib.hid (HTO.out.1.1 _ (List.getElem_mem hlm))
          obtain ⟨y, hy⟩ : ∃ y, o[m] = y := ⟨_, rfl⟩
          rw [hy] at hc HFT HDT HYR
          clear hy
          cases e9
          have c0 := hc.c0
          have c1 := hc.c1
          have c2 := hc.c2
          have HFL := Lib.hid (show (flt x (o.take m)).length ≤ 1000 by
            have h1 : (flt x (o.take m)).length ≤ (o.take m).length := List.length_filter_le _ _
            have := HOL.out
            rw [List.length_take] at h1
            omega)
          have hb : Below wr.heap.size wr (wr.alloc (.cells #[.string y.1, .int .i64 y.2.1, .string y.2.2] 41)) := (Below.refl _ _).alloc (Nat.le_refl _) _
          have hq := enAt_new wr y.1 y.2.1 y.2.2
          obtain ⟨w1, hw1⟩ : ∃ w1, wr.alloc (.cells #[.string y.1, .int .i64 y.2.1, .string y.2.2] 41) = w1 := ⟨_, rfl⟩
          obtain ⟨M1, hM1⟩ : ∃ M1, wr.heap.size = M1 := ⟨_, rfl⟩
          rw [hw1] at hb hq
          rw [hM1] at hq
          have HB1 := Lib.hid (HBI.out.trans (hb.mono HBI.out.size))
          have HO1 := Lib.hid (HOW.out.below hb)
          have HW1 := Lib.hid (HB.out.trans (HB1.out.mono HB.out.size))
          have HQy := Lib.hid hq
          clear hb hq hc
          obtain ⟨bq, oq, eq9, _, hcq⟩ := Ents.at HE2.out HW1.out hlt
          rw [HXK.out] at hcq
          cases eq9
          have x0 := hcq.c0
          have x1 := hcq.c1
          have x2 := hcq.c2
          clear hcq
          have y0 := HQy.out.c0
          have y1 := HQy.out.c1
          have y2 := HQy.out.c2
          have HU0 : Hid (∀ w0 w', OldC w0 w' → Calls Tryz.prog 93 #[.string y.1, .string x.1] w' fun e w'' => e = .returned (.bool (upx (pl y) (pl x))) ∧ OldC w0 w'') := fun w0 w' hw' => by
            refine (refUnd y.1 x.1 (by have := HXS.out; omega) w').mono ?_
            rintro e w'' ⟨rfl, rfl⟩
            exact ⟨rfl, hw'⟩
          obtain ⟨uv, huv⟩ : ∃ uv, upx (pl y) (pl x) = uv := ⟨_, rfl⟩
          rw [huv] at HU0
          have HU := HU0
          clear HU0
          have hh : (y.1.toList == x.1.toList) = decide (pl y = pl x) := by rw [Lib.toList_data, Lib.toList_data, Bool.eq_iff_iff, beq_iff_eq, decide_eq_true_iff]
          have ways : (keepE x y = true ∧ (((x.2.1 == 2) = true ∧ (y.1.toList == x.1.toList) = false ∧ hasD x (o.take (m + 1)) = db) ∨ ((x.2.1 == 2) = false ∧ (y.1.toList == x.1.toList) = false ∧ uv = false ∧ hasD x (o.take (m + 1)) = db))) ∨ (keepE x y = true ∧ ((x.2.1 == 2) = true ∧ (y.1.toList == x.1.toList) = true ∧ (y.2.1 == 2) = true ∧ hasD x (o.take (m + 1)) = true)) ∨ (keepE x y = false ∧ hasD x (o.take (m + 1)) = db ∧ (((x.2.1 == 2) = true ∧ (y.1.toList == x.1.toList) = true ∧ (y.2.1 == 2) = false) ∨ ((x.2.1 == 2) = false ∧ (y.1.toList == x.1.toList) = true ∧ (y.2.1 == 2) = true) ∨ ((x.2.1 == 2) = false ∧ (y.1.toList == x.1.toList) = true ∧ (y.2.1 == 2) = false) ∨ ((x.2.1 == 2) = false ∧ (y.1.toList == x.1.toList) = false ∧ uv = true))) := by
            rw [HDT.out, ← HD.out, hh]
            unfold keepE
            rw [huv]
            by_cases h1 : x.2.1 = 2
            · rw [if_pos h1, show (x.2.1 == 2) = true by rw [h1]; rfl]
              by_cases h2 : pl y = pl x
              · cases h3 : (y.2.1 == 2) with
                | true => exact .inr (.inl ⟨by simp, rfl, decide_eq_true h2, rfl, by simp [h2]⟩)
                | false => exact .inr (.inr ⟨by simp [h2], by simp, .inl ⟨rfl, decide_eq_true h2, rfl⟩⟩)
              · exact .inl ⟨by simp [h2], .inl ⟨rfl, decide_eq_false h2, by simp [h2]⟩⟩
            · rw [if_neg h1, show (x.2.1 == 2) = false from beq_eq_false_iff_ne.2 h1]
              by_cases h2 : pl y = pl x
              · cases h3 : (y.2.1 == 2) with
                | true => exact .inr (.inr ⟨by simp [h2], by simp, .inr (.inl ⟨rfl, decide_eq_true h2, rfl⟩)⟩)
                | false => exact .inr (.inr ⟨by simp [h2], by simp, .inr (.inr (.inl ⟨rfl, decide_eq_true h2, rfl⟩))⟩)
              · cases uv with
                | true => exact .inr (.inr ⟨by simp, by simp, .inr (.inr (.inr ⟨rfl, decide_eq_false h2, rfl⟩))⟩)
                | false => exact .inl ⟨by simp [h2], .inr ⟨rfl, decide_eq_false h2, rfl, by simp⟩⟩
          clear hh huv HD HDT
          rcases ways with ⟨hk, hway⟩ | ⟨hk, g1, g2, g3, hdn⟩ | ⟨hk, hdn, hway⟩
          · have HFN := Lib.hid (show flt x (o.take (m + 1)) = flt x (o.take m) ++ [y] by rw [HFT.out, if_pos hk])
            clear hk
            rcases hway with ⟨g1, g2, hdn⟩ | ⟨g1, g2, rfl, hdn⟩
            all_goals
              have g4 : (x.2.1 != 2) = !(x.2.1 == 2) := rfl
              rw [g1] at g4
              have HDN := Lib.hid hdn.symm
              clear hdn
              go_wp2
              refine wp_region_old (by kernel_rfl) (by kernel_rfl) ?_
              repeat (go_big_quiet_step (fail))
              refine wpQuiet_nil ?_
              intro w2 hb
              have HB2 := Lib.hid (show Below wb.heap.size wb w2 from HB1.out.trans (Below.mono hb HB1.out.size))
              have HO2 := Lib.hid (HO1.out.below hb)
              have HW2 := Lib.hid (show Below w.heap.size w w2 from HW1.out.trans (Below.mono hb HW1.out.size))
              replace HQy := Lib.hid (HQy.out.below hb)
              clear hb x0 x1 x2 y0 y1 y2
              obtain ⟨bq, oq, eq9, _, hcq⟩ := Ents.at HE2.out HW2.out hlt
              rw [HXK.out] at hcq
              cases eq9
              have x0 := hcq.c0
              have x1 := hcq.c1
              have x2 := hcq.c2
              clear hcq
              have y0 := HQy.out.c0
              have y1 := HQy.out.c1
              have y2 := HQy.out.c2
              go_wp2_with fail
              refine wp_region_old (by kernel_rfl) (by kernel_rfl) ?_
              repeat (go_big_quiet_step ((first | (intro hw; with_reducible exact HU.out _ _ hw))))
              refine wpQuiet_nil ?_
              intro w3 hb
              have HB3 := Lib.hid (show Below wb.heap.size wb w3 from HB2.out.trans (Below.mono hb HB2.out.size))
              have HO3 := Lib.hid (HO2.out.below hb)
              have HW3 := Lib.hid (show Below w.heap.size w w3 from HW2.out.trans (Below.mono hb HW2.out.size))
              replace HQy := Lib.hid (HQy.out.below hb)
              clear hb x0 x1 x2 y0 y1 y2
              have y0 := HQy.out.c0
              have y1 := HQy.out.c1
              have y2 := HQy.out.c2
              go_wp2_with (at_builtin; refine Stopped.go ?_)
              unfold Stopped
              refine wl_putE (by rfl) _ _ (by rfl) wb.heap.size u7 _ y (by rfl) (HO3.out.below ((Below.refl _ _).alloc (Nat.le_refl _) _)) (by have := HB3.out.size; simp; omega) w3.heap.size (by rfl) (enAt_new w3 y.1 y.2.1 y.2.2) HFL.out ?_
              intro v6 w6 ho hg
              have HB6 := Lib.hid ((HB3.out.alloc HB3.out.size (.cells #[.string y.1, .int .i64 y.2.1, .string y.2.2] 41)).grown hg (by have := HB3.out.size; simp; omega) (fun k hk => (ownE_blk HO3.out k hk).1))
              have HO6 := Lib.hid ho
              clear ho hg
              go_wp2
              go_roundg (o.length - (m + 1))
              case measure => omega
              case rel => exact ⟨m + 1, _, rfl, by simp, by omega, HDN.out, by rw [HFN.out]; exact HO6.out, HB6.out⟩
          · have HFN := Lib.hid (show flt x (o.take (m + 1)) = flt x (o.take m) ++ [y] by rw [HFT.out, if_pos hk])
            have HDN := Lib.hid hdn.symm
            clear hk hdn
            have g4 : (x.2.1 != 2) = !(x.2.1 == 2) := rfl
            rw [g1] at g4
            go_wp2
            refine wp_region_old (by kernel_rfl) (by kernel_rfl) ?_
            repeat (go_big_quiet_step (fail))
            refine wpQuiet_nil ?_
            intro w2 hb
            have HB2 := Lib.hid (show Below wb.heap.size wb w2 from HB1.out.trans (Below.mono hb HB1.out.size))
            have HO2 := Lib.hid (HO1.out.below hb)
            have HW2 := Lib.hid (show Below w.heap.size w w2 from HW1.out.trans (Below.mono hb HW1.out.size))
            replace HQy := Lib.hid (HQy.out.below hb)
            clear hb x0 x1 x2 y0 y1 y2
            obtain ⟨bq, oq, eq9, _, hcq⟩ := Ents.at HE2.out HW2.out hlt
            rw [HXK.out] at hcq
            cases eq9
            have x0 := hcq.c0
            have x1 := hcq.c1
            have x2 := hcq.c2
            clear hcq
            have y0 := HQy.out.c0
            have y1 := HQy.out.c1
            have y2 := HQy.out.c2
            go_wp2_with fail
            refine wp_region_old (by kernel_rfl) (by kernel_rfl) ?_
            repeat (go_big_quiet_step ((first | (intro hw; with_reducible exact HU.out _ _ hw))))
            refine wpQuiet_nil ?_
            intro w3 hb
            have HB3 := Lib.hid (show Below wb.heap.size wb w3 from HB2.out.trans (Below.mono hb HB2.out.size))
            have HO3 := Lib.hid (HO2.out.below hb)
            have HW3 := Lib.hid (show Below w.heap.size w w3 from HW2.out.trans (Below.mono hb HW2.out.size))
            replace HQy := Lib.hid (HQy.out.below hb)
            clear hb x0 x1 x2 y0 y1 y2
            have y0 := HQy.out.c0
            have y1 := HQy.out.c1
            have y2 := HQy.out.c2
            go_wp2_with (at_builtin; refine Stopped.go ?_)
            unfold Stopped
            refine wl_putE (by rfl) _ _ (by rfl) wb.heap.size u7 _ y (by rfl) (HO3.out.below ((Below.refl _ _).alloc (Nat.le_refl _) _)) (by have := HB3.out.size; simp; omega) w3.heap.size (by rfl) (enAt_new w3 y.1 y.2.1 y.2.2) HFL.out ?_
            intro v6 w6 ho hg
            have HB6 := Lib.hid ((HB3.out.alloc HB3.out.size (.cells #[.string y.1, .int .i64 y.2.1, .string y.2.2] 41)).grown hg (by have := HB3.out.size; simp; omega) (fun k hk => (ownE_blk HO3.out k hk).1))
            have HO6 := Lib.hid ho
            clear ho hg
            go_wp2
            go_roundg (o.length - (m + 1))
            case measure => omega
            case rel => exact ⟨m + 1, _, rfl, by simp, by omega, HDN.out, by rw [HFN.out]; exact HO6.out, HB6.out⟩
          · have HFN := Lib.hid (show flt x (o.take (m + 1)) = flt x (o.take m) by rw [HFT.out, if_neg (by rw [hk]; simp), List.append_nil])
            have HDN := Lib.hid hdn.symm
            clear hk hdn
            rcases hway with ⟨g1, g2, g3⟩ | ⟨g1, g2, g3⟩ | ⟨g1, g2, g3⟩ | ⟨g1, g2, rfl⟩
            all_goals
              have g4 : (x.2.1 != 2) = !(x.2.1 == 2) := rfl
              rw [g1] at g4
              go_wp2
              refine wp_region_old (by kernel_rfl) (by kernel_rfl) ?_
              repeat (go_big_quiet_step (fail))
              refine wpQuiet_nil ?_
              intro w2 hb
              have HB2 := Lib.hid (show Below wb.heap.size wb w2 from HB1.out.trans (Below.mono hb HB1.out.size))
              have HO2 := Lib.hid (HO1.out.below hb)
              have HW2 := Lib.hid (show Below w.heap.size w w2 from HW1.out.trans (Below.mono hb HW1.out.size))
              replace HQy := Lib.hid (HQy.out.below hb)
              clear hb x0 x1 x2 y0 y1 y2
              obtain ⟨bq, oq, eq9, _, hcq⟩ := Ents.at HE2.out HW2.out hlt
              rw [HXK.out] at hcq
              cases eq9
              have x0 := hcq.c0
              have x1 := hcq.c1
              have x2 := hcq.c2
              clear hcq
              have y0 := HQy.out.c0
              have y1 := HQy.out.c1
              have y2 := HQy.out.c2
              go_wp2_with fail
              refine wp_region_old (by kernel_rfl) (by kernel_rfl) ?_
              repeat (go_big_quiet_step ((first | (intro hw; with_reducible exact HU.out _ _ hw))))
              refine wpQuiet_nil ?_
              intro w3 hb
              have HB3 := Lib.hid (show Below wb.heap.size wb w3 from HB2.out.trans (Below.mono hb HB2.out.size))
              have HO3 := Lib.hid (HO2.out.below hb)
              have HW3 := Lib.hid (show Below w.heap.size w w3 from HW2.out.trans (Below.mono hb HW2.out.size))
              replace HQy := Lib.hid (HQy.out.below hb)
              clear hb x0 x1 x2 y0 y1 y2
              go_wp2
              go_roundg (o.length - (m + 1))
              case measure => omega
              case rel => exact ⟨m + 1, _, rfl, by simp, by omega, HDN.out, by rw [HFN.out]; exact HO3.out, HB3.out⟩
        · have hlm' : ¬ (m : Int) < (o.length : Int) := by omega
          have e9 : o.take m = o := List.take_of_length_le (by omega)
          rw [e9] at HD HOW
          obtain ⟨a7, cap7, hu7, h7⟩ := ents_of_own HOW.out
          subst hu7
          have HE7 := Lib.hid h7
          have HW7 := Lib.hid (HB.out.trans (HBI.out.mono HB.out.size))
          have HF9 := Lib.hid (show (flt x o).length ≤ 900 ∧ Asc (flt x o) ∧ ∀ y ∈ flt x o, y.1.size ≤ 100000 from ⟨Nat.le_trans (List.length_filter_le _ _) (by have := HOL.out; omega), HTO.out.1.2.1.filter _, fun y hy => by
            have := isP_len (rE_isP (HTO.out.1.1 y (List.mem_filter.1 hy).1)).1
            rw [← Lib.size_eq] at this
            omega⟩)
          clear e9 h7
          obtain ⟨bq, oq, eq9, _, hcq⟩ := Ents.at HE2.out HW7.out hlt
          rw [HXK.out] at hcq
          cases eq9
          have x0 := hcq.c0
          have x1 := hcq.c1
          have x2 := hcq.c2
          clear hcq
          have hk := kind_of HX.out
          by_cases k1 : x.2.1 = 1
          · have g1 : (x.2.1 == 1) = true := by rw [k1]; rfl
            have g2 : (x.2.1 == 2) = false := by rw [k1]; rfl
            have g4 : (x.2.1 == 4) = false := by rw [k1]; rfl
            have HV := Lib.hid (show wth (flt x o) x = over1 o x by rw [flt_rst HTO.out HX.out (by omega)]; unfold over1; rw [if_neg (by omega), if_pos k1])
            clear hk k1
            go_wp2_with fail
            refine (refWith9 (flt x o) a7 cap7 x _ HE7.out HF9.out.1 HF9.out.2.1 HF9.out.2.2 (by have := HXS.out; show x.1.size ≤ _; omega)).mono ?_
            rintro e w8 ⟨a8, cap8, rfl, h8, hb⟩
            have HB8 := Lib.hid (HW7.out.trans (hb.mono HW7.out.size))
            have HE8 := Lib.hid h8
            rw [HV.out] at HE8 ⊢
            clear hb h8 x0 x1 x2
            obtain ⟨bq, oq, eq9, _, hcq⟩ := Ents.at HE2.out HB8.out hlt
            rw [HXK.out] at hcq
            cases eq9
            have x0 := hcq.c0
            have x1 := hcq.c1
            have x2 := hcq.c2
            clear hcq
            go_wp2
            go_roundg (l.length - (n + 1))
            case measure => omega
            case rel => exact ⟨n + 1, a8, cap8, _, rfl, by simp, by omega, HNX.out.symm, HE8.out, HB8.out⟩
          · have g1 : (x.2.1 == 1) = false := beq_eq_false_iff_ne.2 k1
            by_cases k2 : x.2.1 = 2
            · have g2 : (x.2.1 == 2) = true := by rw [k2]; rfl
              have g4 : (x.2.1 == 4) = false := by rw [k2]; rfl
              cases db with
              | true =>
                have HV := Lib.hid (show flt x o = over1 o x by
                  have h9 := flt_dir HTO.out k2 HD.out.symm
                  rw [h9.1]
                  unfold over1
                  rw [if_pos k2, h9.2])
                clear hk k1 k2
                rw [HV.out] at HE7 ⊢
                go_wp2
                go_roundg (l.length - (n + 1))
                case measure => omega
                case rel => exact ⟨n + 1, a7, cap7, _, rfl, by simp, by omega, HNX.out.symm, HE7.out, HW7.out⟩
              | false =>
                have HV := Lib.hid (show wth (flt x o) (dE x.1) = over1 o x by
                  rw [wth_flt k2 HD.out.symm]
                  unfold over1
                  rw [if_pos k2])
                clear hk k1 k2
                go_wp2_with fail
                refine (refWith9 (flt x o) a7 cap7 (dE x.1) _ HE7.out HF9.out.1 HF9.out.2.1 HF9.out.2.2 (by have := HXS.out; show x.1.size ≤ _; omega)).mono ?_
                rintro e w8 ⟨a8, cap8, rfl, h8, hb⟩
                have HB8 := Lib.hid (HW7.out.trans (hb.mono HW7.out.size))
                have HE8 := Lib.hid h8
                rw [HV.out] at HE8 ⊢
                clear hb h8 x0 x1 x2
                obtain ⟨bq, oq, eq9, _, hcq⟩ := Ents.at HE2.out HB8.out hlt
                rw [HXK.out] at hcq
                cases eq9
                have x0 := hcq.c0
                have x1 := hcq.c1
                have x2 := hcq.c2
                clear hcq
                go_wp2
                go_roundg (l.length - (n + 1))
                case measure => omega
                case rel => exact ⟨n + 1, a8, cap8, _, rfl, by simp, by omega, HNX.out.symm, HE8.out, HB8.out⟩
            · have g2 : (x.2.1 == 2) = false := beq_eq_false_iff_ne.2 k2
              by_cases k4 : x.2.1 = 4
              · have g4 : (x.2.1 == 4) = true := by rw [k4]; rfl
                have HV := Lib.hid (show wth (flt x o) (dE x.1) = over1 o x by rw [flt_rst HTO.out HX.out k2]; unfold over1; rw [if_neg k2, if_neg k1, if_pos k4])
                clear hk k1 k2 k4
                go_wp2_with fail
                refine (refWith9 (flt x o) a7 cap7 (dE x.1) _ HE7.out HF9.out.1 HF9.out.2.1 HF9.out.2.2 (by have := HXS.out; show x.1.size ≤ _; omega)).mono ?_
                rintro e w8 ⟨a8, cap8, rfl, h8, hb⟩
                have HB8 := Lib.hid (HW7.out.trans (hb.mono HW7.out.size))
                have HE8 := Lib.hid h8
                rw [HV.out] at HE8 ⊢
                clear hb h8 x0 x1 x2
                obtain ⟨bq, oq, eq9, _, hcq⟩ := Ents.at HE2.out HB8.out hlt
                rw [HXK.out] at hcq
                cases eq9
                have x0 := hcq.c0
                have x1 := hcq.c1
                have x2 := hcq.c2
                clear hcq
                go_wp2
                go_roundg (l.length - (n + 1))
                case measure => omega
                case rel => exact ⟨n + 1, a8, cap8, _, rfl, by simp, by omega, HNX.out.symm, HE8.out, HB8.out⟩
              · have g4 : (x.2.1 == 4) = false := beq_eq_false_iff_ne.2 k4
                have HV := Lib.hid (show flt x o = over1 o x by rw [flt_rst HTO.out HX.out k2]; unfold over1; rw [if_neg k2, if_neg k1, if_neg k4])
                clear hk k1 k2 k4
                rw [HV.out] at HE7 ⊢
                go_wp2
                go_roundg (l.length - (n + 1))
                case measure => omega
                case rel => exact ⟨n + 1, a7, cap7, _, rfl, by simp, by omega, HNX.out.symm, HE7.out, HW7.out⟩
    · have hlt' : ¬ (n : Int) < (l.length : Int) := by omega
      have HV := Lib.hid (show o = over t l by rw [HO.out, List.take_of_length_le (by omega)])
      go_wp2
      go_ret
      exact ⟨a5, cap5, by rw [← HV.out]; rfl, by rw [← HV.out]; exact HEO.out, HB.out⟩
end Go.Proofs.YtemnlolkmjdefaaGreatDoor
