/-
  The contract of package fold's Tree. Conditions: the list lies in memory, has at most 1000 entries, its texts at most 100000 bytes.
-/
import Derived.Test.YtgpipljhpkhffaaDoorS10Par
import Derived.Test.YtgpipljhpkhffaaDoorS10Plain
import Derived.Test.YtgpipljhpkhffaaDoorMapStr
import Derived.Test.YtgpipljhpkhffaaDoorS9LastT
import Derived.Test.YtgpipljhpkhffaaDoorS9Sm
import Derived.Test.YtgpipljhpkhffaaDoorOldEn
import Derived.Test.YtgpipljhpkhffaaDoorS8EntR
import Derived.Deep.LoopGhost
import Derived.IntWalk
namespace Go.Proofs.YtgpipljhpkhffaaDoor
open Go.RowKit Go.Maps

/-- The directories that a map holds behind a list of entries. -/
def dset (l : List Ent) : List UInt8 → Option Value := l.foldl (fun f e => if hd e = true then fun x => if x = pl e then some (.agg #[]) else f x else f) fun x => if x = [47] then some (.agg #[]) else none
theorem dset_snoc (l : List Ent) (e : Ent) : dset (l ++ [e]) = if hd e = true then fun x => if x = pl e then some (.agg #[]) else dset l x else dset l := by unfold dset; rw [List.foldl_append]; rfl
theorem dset_some (l : List Ent) (p : List UInt8) : dset l p = if p = [47] ∨ ∃ d ∈ l, pl d = p ∧ hd d = true then some (.agg #[]) else none := by
  have key : ∀ n (l : List Ent), l.length = n → dset l p = if p = [47] ∨ ∃ d ∈ l, pl d = p ∧ hd d = true then some (.agg #[]) else none := by
    intro n
    induction n with
    | zero =>
      intro l hl
      rw [List.length_eq_zero_iff.1 hl]
      simp [dset]
    | succ n ih =>
      intro l hl
      rcases List.eq_nil_or_concat l with rfl | ⟨r, e, rfl⟩
      · simp at hl
      · rw [List.concat_eq_append] at *
        have ih := ih r (by simpa using hl)
        rw [dset_snoc]
        by_cases he : hd e = true
        · rw [if_pos he]
          show (if p = pl e then some (.agg #[]) else dset r p) = _
          by_cases hp : p = pl e
          · rw [if_pos hp, if_pos (.inr ⟨e, by simp, hp.symm, he⟩)]
          · rw [if_neg hp, ih]
            congr 1
            rw [eq_iff_iff]
            refine or_congr_right ⟨fun ⟨d, h1, h2⟩ => ⟨d, by simp [h1], h2⟩, fun ⟨d, h1, h2⟩ => ?_⟩
            rcases List.mem_append.1 h1 with h1 | h1
            · exact ⟨d, h1, h2⟩
            · obtain rfl : d = e := by simpa using h1
              exact absurd h2.1.symm hp
        · rw [if_neg he, ih]
          congr 1
          rw [eq_iff_iff]
          refine or_congr_right ⟨fun ⟨d, h1, h2⟩ => ⟨d, by simp [h1], h2⟩, fun ⟨d, h1, h2⟩ => ?_⟩
          rcases List.mem_append.1 h1 with h1 | h1
          · exact ⟨d, h1, h2⟩
          · obtain rfl : d = e := by simpa using h1
            exact absurd h2.2 he
  exact key _ l rfl
theorem dset_in (l : List Ent) (e : Ent) : (dset l (par9 (pl e))).isSome = decide (inD l e) := by
  rw [dset_some]
  by_cases h : inD l e
  · have h' : par9 (pl e) = [47] ∨ ∃ d ∈ l, pl d = par9 (pl e) ∧ hd d = true := h
    rw [if_pos h', decide_eq_true h]; rfl
  · have h' : ¬ (par9 (pl e) = [47] ∨ ∃ d ∈ l, pl d = par9 (pl e) ∧ hd d = true) := h
    rw [if_neg h', decide_eq_false h]; rfl
theorem dset_get (l : List Ent) (p : List UInt8) : (dset l p).getD (.agg #[]) = .agg #[] := by rw [dset_some]; split <;> rfl
theorem tr_snoc {l : List Ent} {e : Ent} : TR (l ++ [e]) ↔ TR l ∧ rE e = true ∧ e.2.1 ≤ 2 ∧ (∀ a, l.getLast? = some a → lt8 (pl a) (pl e) = true) ∧ inD l e := by
  unfold TR
  rw [rl_snoc]
  constructor
  · rintro ⟨⟨h1, h2, h3, h4⟩, h5⟩
    exact ⟨⟨h1, fun x hx => h5 x (by simp [hx])⟩, h2, h5 e (by simp), h3, h4⟩
  · rintro ⟨⟨h1, h6⟩, h2, h5, h3, h4⟩
    refine ⟨⟨h1, h2, h3, h4⟩, fun x hx => ?_⟩
    rcases List.mem_append.1 hx with hx | hx
    · exact h6 x hx
    · obtain rfl : x = e := by simpa using hx
      exact h5
theorem tr_takeC {l : List Ent} (h : TR l) (n : Nat) : TR (l.take n) := ⟨rl_take h.1 n, fun x hx => h.2 x (List.mem_of_mem_take hx)⟩
theorem tr_no {l : List Ent} {k : Nat} (h : ¬ TR (l.take (k + 1))) : decide (TreeL l) = false := decide_eq_false fun hr => h (tr_takeC hr.2 _)
attribute [local go_sem ↓] old_ldi old_lds old_lde3
attribute [local go_sem] oldC_forall isC1_ptr isS1_ptr c1V_ptr isE3_ptr e3V_ptr
set_option maxRecDepth 10000 in
set_option maxHeartbeats 4000000 in
theorem tree10 (l : List Ent) (a : Option Addr) (cap : Nat) (w : World) (h : Ents w a cap l) (hs : Sm l) : Calls Tryd.prog 8 #[.slice a l.length cap] w fun e w' => e = .returned (.bool (decide (TreeL l))) ∧ Below w.heap.size w w' := by
  obtain ⟨R, hR⟩ : ∃ R, decide (TreeL l) = R := ⟨_, rfl⟩
  rw [hR]
  have HR := Lib.hid hR
  have hmm := @run_makeMap Tryd.prog
  have g64 : ¬ (1024 : Int) < (l.length : Int) := by have := hs.1; omega
  have hz : ∀ W, (zeroValue 42).run Tryd.prog W = .ok (.agg #[]) W := by intro W; kernel_rfl
  obtain ⟨m, hm⟩ : ∃ m, w.heap.size = m := ⟨_, rfl⟩
  have hb0 : Below w.heap.size w (w.alloc (.map #[] 0)) := (Below.refl _ _).alloc (Nat.le_refl _) _
  obtain ⟨V0, hV0⟩ : ∃ V0, w.alloc (.map #[] 0) = V0 := ⟨_, rfl⟩
  have hM0 : MapS Tryd.prog 9 V0 m 0 fun _ => none := by rw [← hV0, ← hm]; exact mapS_made Tryd.prog 9 w
  rw [hV0] at hb0
  obtain ⟨V, hput, hMV, hgV⟩ := hM0.put (t := 43) (e := 42) Tryd.underlying9 Tryd.underlying43 (by unfold maxLen; omega) (i := ⟨#[47]⟩) (by decide) (.agg #[])
  have HMV := Lib.hid (show MapS Tryd.prog 9 V m 1 (dset []) from hMV)
  have HBV := Lib.hid (show Below m w V by
    rw [hm] at hb0
    exact hb0.grown hgV (by rw [← hm]; exact hb0.size) fun j hj => by cases hj; exact Nat.le_refl _)
  have HME := Lib.hid hm
  have HE := Lib.hid h
  have HS := Lib.hid hs
  have HCAP := Lib.hid h.1
  rw [hm]
  clear h hs hR hb0 hM0 hMV hgV
  go_enter Tryd.func8, Tryd.ntmps8
  go_wp2
  go_loopg [19] l.length (fun g i wx => ∃ k : Nat, i = .int .i64 (k : Int) ∧ k + g = l.length ∧ Hid (TR (l.take k)) ∧ Hid (MapS Tryd.prog 9 wx m (k + 1) (dset (l.take k))) ∧ Hid (Below m w wx))
  case atStart => exact ⟨0, rfl, by omega, by simpa [Hid] using tr_nil, HMV.out, HBV.out⟩
  case round =>
    obtain ⟨k, rfl, hk, HI, HM, HB⟩ := hrel
    have hw : IntKind.i64.wrap ((k : Int) + 1) = (k : Int) + 1 := IntWalk.i64_in _ (by omega)
    by_cases hlt : k < l.length
    · have hlt' : (k : Int) < (l.length : Int) := by omega
      have hkc : (k : Int) ≤ (cap : Int) := by have := HCAP.out; omega
      obtain ⟨b, off, rfl, hb, hc⟩ := HE.out.at (show Below w.heap.size w wr by rw [HME.out]; exact HB.out) hlt
      have HEr := Lib.hid (RowN.below HE.out (show Below w.heap.size w wr by rw [HME.out]; exact HB.out))
      have HT := Lib.hid (take_get l k hlt)
      have HDS := Lib.hid (show dset (l.take (k + 1)) = if hd l[k] = true then fun z => if z = pl l[k] then some (.agg #[]) else dset (l.take k) z else dset (l.take k) by rw [take_get l k hlt, dset_snoc])
      have HZ := Lib.hid (HS.out.2 _ (List.getElem_mem hlt))
      have HLT := Lib.hid (fun j (hj : k = j + 1) => last_take9 hlt hj)
      have HNO := Lib.hid (fun h => tr_no (l := l) (k := k) h)
      obtain ⟨x, hx⟩ : ∃ x, l[k] = x := ⟨_, rfl⟩
      rw [hx] at hc HT HZ HDS
      have c0 := hc.c0
      have c1 := hc.c1
      have c2 := hc.c2
      obtain ⟨W, hW⟩ : ∃ W, wr.alloc (.cells #[.string x.1, .int .i64 x.2.1, .string x.2.2] 41) = W := ⟨_, rfl⟩
      obtain ⟨M, hM⟩ : ∃ M, wr.heap.size = M := ⟨_, rfl⟩
      have hbW : Below wr.heap.size wr W := by rw [← hW]; exact (Below.refl _ _).alloc (Nat.le_refl _) _
      have HMR := Lib.hid (show m ≤ wr.heap.size by have := HB.out.size; have := HME.out; omega)
      have HBW := Lib.hid (HB.out.trans (hbW.mono HMR.out))
      have HMW := Lib.hid (show m ≤ W.heap.size by have := hbW.size; have := HMR.out; omega)
      have HMP := Lib.hid (HM.out.below hbW)
      have HQ := Lib.hid (show EnAt W M x.1 x.2.1 x.2.2 by rw [← hW, ← hM]; exact enAt_new _ _ _ _)
      have HEW := Lib.hid (RowN.below HEr.out hbW)
      have q0 := HQ.out.c0
      have q1 := HQ.out.c1
      have q2 := HQ.out.c2
      have H1 : Hid (∀ w0 w', OldC w0 w' → Calls Tryd.prog 19 #[entV x.1 x.2.1 x.2.2] w' fun r w'' => r = .returned (.bool (rE x)) ∧ OldC w0 w'') := fun w0 w' hw' => by
        refine (right8 x.1 x.2.1 x.2.2 (by have := HZ.out; unfold maxLen; omega) w').mono ?_
        rintro r w'' ⟨rfl, hb⟩
        exact ⟨rfl, hw'.then hb⟩
      have H4 : Hid (∀ w0 w', OldC w0 w' → Calls Tryd.prog 20 #[entV x.1 x.2.1 x.2.2] w' fun r w'' => r = .returned (.bool (x.2.1 == 1 || x.2.1 == 2)) ∧ OldC w0 w'') := fun w0 w' hw' => by
        refine (plain10 x w').mono ?_
        rintro r w'' ⟨rfl, hb⟩
        exact ⟨rfl, hw'.then hb⟩
      have H2 : Hid (∀ y : Ent, ∀ w0 w', OldC w0 w' → Calls Tryd.prog 21 #[entV y.1 y.2.1 y.2.2, entV x.1 x.2.1 x.2.2] w' fun r w'' => r = .returned (.bool (lt8 (pl y) (pl x))) ∧ OldC w0 w'') := fun y w0 w' hw' => by
        refine (less8 y.1 x.1 y.2.2 x.2.2 y.2.1 x.2.1 w').mono ?_
        rintro r w'' ⟨rfl, hb⟩
        exact ⟨rfl, hw'.then hb⟩
      clear hc hx hb hbW
      cases hv : rE x with
      | false =>
        rw [hv] at H1
        have HX := Lib.hid (show R = false by
          rw [← HR.out]
          refine HNO.out fun h => ?_
          rw [HT.out, tr_snoc, hv] at h
          cases h.2.1)
        clear hv
        go_wp2_with fail
        refine wp_region_old (by kernel_rfl) (by kernel_rfl) ?_
        repeat (go_big_quiet_step ((first | (intro hw; with_reducible exact H1.out _ _ hw))))
        refine wpQuiet_nil ?_
        intro w3 hw3
        have HB3 := Lib.hid (show Below m w w3 from HBW.out.trans (Below.mono hw3 HMW.out))
        clear hw3
        go_wp2
        go_ret
        exact ⟨by rw [HX.out]; rfl, HB3.out⟩
      | true =>
        rw [hv] at H1
        have HVX := Lib.hid hv
        clear hv
        cases hpv : (x.2.1 == 1 || x.2.1 == 2) with
        | false =>
          rw [hpv] at H4
          have HX := Lib.hid (show R = false by
            rw [← HR.out]
            refine HNO.out fun h => ?_
            rw [HT.out, tr_snoc] at h
            have hk9 := kind_of HVX.out
            have h9 := h.2.2.1
            have : x.2.1 = 1 ∨ x.2.1 = 2 := by omega
            rcases this with h | h <;> rw [h] at hpv <;> cases hpv)
          clear hpv
          go_wp2_with fail
          refine wp_region_old (by kernel_rfl) (by kernel_rfl) ?_
          repeat (go_big_quiet_step ((first | (intro hw; with_reducible exact H1.out _ _ hw) | (intro hw; with_reducible exact H4.out _ _ hw))))
          refine wpQuiet_nil ?_
          intro w3 hw3
          have HB3 := Lib.hid (show Below m w w3 from HBW.out.trans (Below.mono hw3 HMW.out))
          clear hw3
          go_wp2
          go_ret
          exact ⟨by rw [HX.out]; rfl, HB3.out⟩
        | true =>
          rw [hpv] at H4
          have HK2 := Lib.hid (show x.2.1 ≤ 2 by
            rw [Bool.or_eq_true, beq_iff_eq, beq_iff_eq] at hpv
            omega)
          have HPX := Lib.hid (rE_isP HVX.out)
          clear hpv
          have called : (decide (0 < k) = false ∧ ∀ y, (l.take k).getLast? = some y → lt8 (pl y) (pl x) = true) ∨ (decide (0 < k) = true ∧ ∃ (j : Nat) (y : Ent), (k : Int) - 1 = (j : Int) ∧ (l.take k).getLast? = some y ∧ EnCells W b (off + j * 3) y ∧ (j : Int) < (l.length : Int)) := by
            by_cases h0 : 0 < k
            · refine .inr ⟨decide_eq_true h0, k - 1, l[k - 1]'(by omega), by omega, HLT.out (k - 1) (by omega), ?_, by omega⟩
              obtain ⟨b', off', e9, _, h9⟩ := Ents.at HEW.out (Below.refl _ _) (show k - 1 < l.length by omega)
              cases e9
              exact h9
            · refine .inl ⟨decide_eq_false h0, fun y hy => ?_⟩
              obtain rfl : k = 0 := by omega
              simp at hy
          rcases called with ⟨g0, hlast⟩ | ⟨g0, j, y, hj, hy, hcy, hjl⟩
          · have HLA := Lib.hid hlast
            clear hlast
            go_wp2_with fail
            refine wp_region_old (by kernel_rfl) (by kernel_rfl) ?_
            repeat (go_big_quiet_step ((first | (intro hw; with_reducible exact H1.out _ _ hw) | (intro hw; with_reducible exact H4.out _ _ hw))))
            refine wpQuiet_nil ?_
            intro w3 hw3
            have HB3 := Lib.hid (show Below m w w3 from HBW.out.trans (Below.mono hw3 HMW.out))
            have HM3 := Lib.hid (show m ≤ w3.heap.size from Nat.le_trans HMW.out (Below.size hw3))
            have HQ3 := Lib.hid (HQ.out.below hw3)
            replace HMP := Lib.hid (HMP.out.below hw3)
            clear hw3 q0 q1 q2 c0 c1 c2
            have q0 := HQ3.out.c0
            go_wp2_with fail
            refine (par10 x.1 HPX.out.1 _).mono ?_
            rintro r w4 ⟨d, nm, er, rfl, ho, hb⟩
            obtain ⟨h9, _⟩ | ⟨_, rfl, hd9⟩ := ho
            · exact absurd h9 HPX.out.2
            have HB4 := Lib.hid (HB3.out.trans (hb.mono HM3.out))
            have HM4 := Lib.hid (show m ≤ w4.heap.size from Nat.le_trans HM3.out hb.size)
            replace HMP := Lib.hid (HMP.out.below hb)
            replace HQ3 := Lib.hid (HQ3.out.below hb)
            clear q0 hb
            have hd54 := isP_len (par9_isP HPX.out.1 HPX.out.2).1
            rw [← hd9, ← Lib.size_eq] at hd54
            have hlk := (MapS.look HMP.out Tryd.underlying9 (t := 43) (e := 42) Tryd.underlying43 (hz w4) (i := d) (by unfold maxLen; omega)).2
            rw [hd9, dset_get, dset_in] at hlk
            clear hd9 hd54
            obtain ⟨U, hU⟩ : ∃ U, w4.alloc (.cells #[] 42) = U := ⟨_, rfl⟩
            have hbU : Below w4.heap.size w4 U := by rw [← hU]; exact (Below.refl _ _).alloc (Nat.le_refl _) _
            have HBU := Lib.hid (HB4.out.trans (hbU.mono HM4.out))
            have HMU := Lib.hid (show m ≤ U.heap.size from Nat.le_trans HM4.out hbU.size)
            replace HMP := Lib.hid (HMP.out.below hbU)
            replace HQ3 := Lib.hid (HQ3.out.below hbU)
            clear hbU
            by_cases hin : inD (l.take k) x
            · rw [decide_eq_true hin] at hlk
              have HN := Lib.hid (show TR (l.take (k + 1)) by rw [HT.out, tr_snoc]; exact ⟨HI.out, HVX.out, HK2.out, HLA.out, hin⟩)
              clear hin
              have q0 := HQ3.out.c0
              have q1 := HQ3.out.c1
              have q2 := HQ3.out.c2
              go_wp2_with fail
              refine (holds8 x.1 x.2.2 x.2.1 _).mono ?_
              rintro r w5 ⟨rfl, hb⟩
              have HB5 := Lib.hid (HBU.out.trans (hb.mono HMU.out))
              have HM5 := Lib.hid (show m ≤ w5.heap.size from Nat.le_trans HMU.out hb.size)
              replace HMP := Lib.hid (HMP.out.below hb)
              replace HQ3 := Lib.hid (HQ3.out.below hb)
              clear hb q0 q1 q2 hlk
              cases hh : (x.2.1 == 2 || x.2.1 == 4) with
              | false =>
                rw [if_neg (by show ¬ (x.2.1 == 2 || x.2.1 == 4) = true; rw [hh]; simp)] at HDS
                clear hh
                go_wp2
                go_roundg (gk - 1)
                case measure => omega
                case rel => exact ⟨k + 1, by simp, by omega, HN.out, by rw [HDS.out]; exact HMP.out.mono (Nat.le_succ _), HB5.out⟩
              | true =>
                rw [if_pos (by show (x.2.1 == 2 || x.2.1 == 4) = true; exact hh)] at HDS
                have q0 := HQ3.out.c0
                obtain ⟨w7, hput7, hm7, hg7⟩ := HMP.out.put (t := 43) (e := 42) Tryd.underlying9 Tryd.underlying43 (by have := HS.out.1; unfold maxLen; omega) (i := x.1) (by have := HZ.out; unfold maxLen; omega) (.agg #[])
                have HM7 := Lib.hid hm7
                have HB7 := Lib.hid (HB5.out.grown hg7 HM5.out fun j hj => by cases hj; exact Nat.le_refl _)
                clear hh hm7 hg7
                go_wp2
                go_roundg (gk - 1)
                case measure => omega
                case rel => exact ⟨k + 1, by simp, by omega, HN.out, by rw [HDS.out]; exact HM7.out, HB7.out⟩
            · rw [decide_eq_false hin] at hlk
              have HX := Lib.hid (show R = false by
                rw [← HR.out]
                refine HNO.out fun h => ?_
                rw [HT.out, tr_snoc] at h
                exact hin h.2.2.2.2)
              clear hin
              go_wp2
              go_ret
              exact ⟨by rw [HX.out]; rfl, HBU.out⟩
          · have y0 := hcy.c0
            have y1 := hcy.c1
            have y2 := hcy.c2
            have HY := Lib.hid hy
            have hwj : IntKind.i64.wrap (j : Int) = (j : Int) := IntWalk.i64_in _ (by omega)
            clear hcy hy
            cases hv : lt8 (pl y) (pl x) with
            | false =>
              have H2y := Lib.hid (H2.out y)
              rw [hv] at H2y
              have HX := Lib.hid (show R = false by
                rw [← HR.out]
                refine HNO.out fun h => ?_
                rw [HT.out, tr_snoc] at h
                have := h.2.2.2.1 y HY.out
                rw [hv] at this
                cases this)
              clear hv
              go_wp2_with fail
              refine wp_region_old (by kernel_rfl) (by kernel_rfl) ?_
              repeat (go_big_quiet_step ((first | (intro hw; with_reducible exact H1.out _ _ hw) | (intro hw; with_reducible exact H4.out _ _ hw) | (intro hw; with_reducible exact H2y.out _ _ hw))))
              refine wpQuiet_nil ?_
              intro w3 hw3
              have HB3 := Lib.hid (show Below m w w3 from HBW.out.trans (Below.mono hw3 HMW.out))
              clear hw3
              go_wp2
              go_ret
              exact ⟨by rw [HX.out]; rfl, HB3.out⟩
            | true =>
              have H2y := Lib.hid (H2.out y)
              rw [hv] at H2y
              have HLA := Lib.hid (show ∀ z, (l.take k).getLast? = some z → lt8 (pl z) (pl x) = true from fun z hz => by
                have := HY.out.symm.trans hz
                cases this
                exact hv)
              clear hv
              go_wp2_with fail
              refine wp_region_old (by kernel_rfl) (by kernel_rfl) ?_
              repeat (go_big_quiet_step ((first | (intro hw; with_reducible exact H1.out _ _ hw) | (intro hw; with_reducible exact H4.out _ _ hw) | (intro hw; with_reducible exact H2y.out _ _ hw))))
              refine wpQuiet_nil ?_
              intro w3 hw3
              clear y0 y1 y2
              have HB3 := Lib.hid (show Below m w w3 from HBW.out.trans (Below.mono hw3 HMW.out))
              have HM3 := Lib.hid (show m ≤ w3.heap.size from Nat.le_trans HMW.out (Below.size hw3))
              have HQ3 := Lib.hid (HQ.out.below hw3)
              replace HMP := Lib.hid (HMP.out.below hw3)
              clear hw3 q0 q1 q2 c0 c1 c2
              have q0 := HQ3.out.c0
              go_wp2_with fail
              refine (par10 x.1 HPX.out.1 _).mono ?_
              rintro r w4 ⟨d, nm, er, rfl, ho, hb⟩
              obtain ⟨h9, _⟩ | ⟨_, rfl, hd9⟩ := ho
              · exact absurd h9 HPX.out.2
              have HB4 := Lib.hid (HB3.out.trans (hb.mono HM3.out))
              have HM4 := Lib.hid (show m ≤ w4.heap.size from Nat.le_trans HM3.out hb.size)
              replace HMP := Lib.hid (HMP.out.below hb)
              replace HQ3 := Lib.hid (HQ3.out.below hb)
              clear q0 hb
              have hd54 := isP_len (par9_isP HPX.out.1 HPX.out.2).1
              rw [← hd9, ← Lib.size_eq] at hd54
              have hlk := (MapS.look HMP.out Tryd.underlying9 (t := 43) (e := 42) Tryd.underlying43 (hz w4) (i := d) (by unfold maxLen; omega)).2
              rw [hd9, dset_get, dset_in] at hlk
              clear hd9 hd54
              obtain ⟨U, hU⟩ : ∃ U, w4.alloc (.cells #[] 42) = U := ⟨_, rfl⟩
              have hbU : Below w4.heap.size w4 U := by rw [← hU]; exact (Below.refl _ _).alloc (Nat.le_refl _) _
              have HBU := Lib.hid (HB4.out.trans (hbU.mono HM4.out))
              have HMU := Lib.hid (show m ≤ U.heap.size from Nat.le_trans HM4.out hbU.size)
              replace HMP := Lib.hid (HMP.out.below hbU)
              replace HQ3 := Lib.hid (HQ3.out.below hbU)
              clear hbU
              by_cases hin : inD (l.take k) x
              · rw [decide_eq_true hin] at hlk
                have HN := Lib.hid (show TR (l.take (k + 1)) by rw [HT.out, tr_snoc]; exact ⟨HI.out, HVX.out, HK2.out, HLA.out, hin⟩)
                clear hin
                have q0 := HQ3.out.c0
                have q1 := HQ3.out.c1
                have q2 := HQ3.out.c2
                go_wp2_with fail
                refine (holds8 x.1 x.2.2 x.2.1 _).mono ?_
                rintro r w5 ⟨rfl, hb⟩
                have HB5 := Lib.hid (HBU.out.trans (hb.mono HMU.out))
                have HM5 := Lib.hid (show m ≤ w5.heap.size from Nat.le_trans HMU.out hb.size)
                replace HMP := Lib.hid (HMP.out.below hb)
                replace HQ3 := Lib.hid (HQ3.out.below hb)
                clear hb q0 q1 q2 hlk
                cases hh : (x.2.1 == 2 || x.2.1 == 4) with
                | false =>
                  rw [if_neg (by show ¬ (x.2.1 == 2 || x.2.1 == 4) = true; rw [hh]; simp)] at HDS
                  clear hh
                  go_wp2
                  go_roundg (gk - 1)
                  case measure => omega
                  case rel => exact ⟨k + 1, by simp, by omega, HN.out, by rw [HDS.out]; exact HMP.out.mono (Nat.le_succ _), HB5.out⟩
                | true =>
                  rw [if_pos (by show (x.2.1 == 2 || x.2.1 == 4) = true; exact hh)] at HDS
                  have q0 := HQ3.out.c0
                  obtain ⟨w7, hput7, hm7, hg7⟩ := HMP.out.put (t := 43) (e := 42) Tryd.underlying9 Tryd.underlying43 (by have := HS.out.1; unfold maxLen; omega) (i := x.1) (by have := HZ.out; unfold maxLen; omega) (.agg #[])
                  have HM7 := Lib.hid hm7
                  have HB7 := Lib.hid (HB5.out.grown hg7 HM5.out fun j hj => by cases hj; exact Nat.le_refl _)
                  clear hh hm7 hg7
                  go_wp2
                  go_roundg (gk - 1)
                  case measure => omega
                  case rel => exact ⟨k + 1, by simp, by omega, HN.out, by rw [HDS.out]; exact HM7.out, HB7.out⟩
              · rw [decide_eq_false hin] at hlk
                have HX := Lib.hid (show R = false by
                  rw [← HR.out]
                  refine HNO.out fun h => ?_
                  rw [HT.out, tr_snoc] at h
                  exact hin h.2.2.2.2)
                clear hin
                go_wp2
                go_ret
                exact ⟨by rw [HX.out]; rfl, HBU.out⟩
    · have hlt' : ¬ (k : Int) < (l.length : Int) := by omega
      have HX := Lib.hid (show R = true by
        rw [← HR.out]
        have := HI.out
        rw [List.take_of_length_le (by omega)] at this
        exact decide_eq_true ⟨by have := HS.out.1; omega, this⟩)
      go_wp2
      go_ret
      exact ⟨by rw [HX.out]; rfl, HB.out⟩
end Go.Proofs.YtgpipljhpkhffaaDoor
