/-
  The law LayerPlays walked over Layer9 at a right layer. Conditions: package layer answers as Layer9 says; the list lies in memory; errorType holds error's type.
-/
import Derived.Test.YtflomllfehoedaaDoorPk7
import Derived.Test.YtflomllfehoedaaDoorS9PlaysA
import Derived.Test.YtflomllfehoedaaDoorOldTail
import Derived.Deep.CutRange
namespace Go.Proofs.YtflomllfehoedaaDoor
open Go.RowKit

/-- An entry at that path. -/
def hasP (l : List Ent) (p : List UInt8) : Bool := l.any fun y => decide (pl y = p)
theorem hasP_take (l : List Ent) (p : List UInt8) (n : Nat) (h : n < l.length) : hasP (l.take (n + 1)) p = (hasP (l.take n) p || decide (pl l[n] = p)) := by
  unfold hasP
  rw [take_get l n h, List.any_append]
  simp
theorem hasP_fnd (l : List Ent) (p : List UInt8) : (fnd l p = none) = (hasP l p = false) := by
  rw [fnd_none]
  unfold hasP
  simp
theorem beq_dec (a b : ByteArray) : (a.toList == b.toList) = decide (a.data.toList = b.data.toList) := by
  rw [Lib.toList_data, Lib.toList_data, Bool.eq_iff_iff, beq_iff_eq, decide_eq_true_iff]
attribute [local go_sem ↓] eqw_en new_en old_ldi old_lds old_lde3 old_eqen old_neen
attribute [local go_sem] isEv_agg evEq_agg eta_ent oldC_forall isC1_ptr isS1_ptr c1V_ptr isE3_ptr e3V_ptr
set_option maxRecDepth 10000 in
set_option maxHeartbeats 8000000 in
theorem plays_good (L : Layer9) (l : List Ent) (a : Option Addr) (cap : Nat) (x : Ent) (p : ByteArray) (W : World) (hg : EtLaid W) (h : Ents W a cap l) (hz : SizeOK l) (hs : x.1.size ≤ 100 ∧ x.2.2.size ≤ 600 ∧ p.size ≤ 100) (hr : RightL l) : Calls Tryd.prog 5 #[.slice a l.length cap, enV x, .string p] W fun e w' => e = .returned (.bool true) ∧ Below W.heap.size W w' := by
  have HS0 := Lib.hid (st_self hg)
  obtain ⟨w0, hw0⟩ : ∃ w0, W.alloc (.cells #[.string x.1, .int .i64 x.2.1, .string x.2.2] 38) = w0 := ⟨_, rfl⟩
  obtain ⟨N, hN⟩ : ∃ N, W.heap.size = N := ⟨_, rfl⟩
  have hb : Below W.heap.size W w0 := by rw [← hw0]; exact (Below.refl _ _).alloc (Nat.le_refl _) _
  have HQe := Lib.hid (show EnAt w0 N x.1 x.2.1 x.2.2 by rw [← hw0, ← hN]; exact enAt_new _ _ _ _)
  replace HS0 := Lib.hid (HS0.out.next hb)
  have HE := Lib.hid (Ents.of_row (h.below hb))
  clear hg h hb
  have HSm := Lib.hid (sm_size hz)
  have HSR := Lib.hid (show l.length ≤ 900 ∧ ∀ e ∈ l, e.1.size ≤ 100000 from ⟨by have := hz.1; omega, fun e he => by have := hz.2 e he; omega⟩)
  have hZ1 : (if SizeOK l then (1 : Int) else 0) = 1 := if_pos hz
  have HZs := Lib.hid hs
  have h1 : ¬ (100 : Int) < (x.1.size : Int) := by omega
  have h2 : ¬ (600 : Int) < (x.2.2.size : Int) := by omega
  have h3 : ¬ (100 : Int) < (p.size : Int) := by omega
  have HSx := Lib.hid (show Sm [x] from ⟨by simp, fun e he => by
    obtain rfl : e = x := by simpa using he
    omega⟩)
  clear hz hs
  have hr1 : decide (RightL l) = true := decide_eq_true hr
  have HR := Lib.hid hr
  have hV : lyV l = (0, layL l) := if_pos hr
  have HLy : Hid (∀ X : World, Ents X a cap l → Calls Tryd.prog 20 #[.slice a l.length cap] X fun e w' => e = .returned (.string (layL l)) ∧ Below X.heap.size X w') := fun X hX => refLay9 l a cap X hX hr
  obtain ⟨s, hs⟩ : ∃ s, layL l = s := ⟨_, rfl⟩
  rw [hs] at hV HLy
  have HV := Lib.hid hV
  clear hr hV hs
  go_enter Tryd.func5, Tryd.ntmps5
  go_wp2_with fail
  refine (awake9 L _ HS0.out.et).mono ?_
  rintro e w1 ⟨rfl, hb⟩
  have HS1 := Lib.hid (HS0.out.next hb)
  replace HE := Lib.hid (HE.out.below hb)
  replace HQe := Lib.hid (HQe.out.below hb)
  clear hb
  have e0 := HQe.out.c0
  have e1 := HQe.out.c1
  have e2 := HQe.out.c2
  go_wp2_with fail
  refine (size9 l a cap _ HE.out).mono ?_
  rintro e w9 ⟨rfl, rfl⟩
  rw [hZ1]
  go_wp2_with fail
  refine (refRight9 l a cap _ HE.out (by have := HSR.out.1; omega) HSR.out.2).mono ?_
  rintro e w2 ⟨rfl, hb⟩
  have HS2 := Lib.hid (HS1.out.next hb)
  replace HE := Lib.hid (HE.out.below hb)
  replace HQe := Lib.hid (HQe.out.below hb)
  clear hb
  rw [hr1]
  clear e0 e1 e2
  go_wp2_with fail
  refine (L.lay l a cap _ HS2.out.et HE.out HSm.out).mono ?_
  rintro e w3 ⟨er, rfl, hEr, hb⟩
  have HS3 := Lib.hid (HS2.out.next hb)
  replace HE := Lib.hid (HE.out.below hb)
  replace HQe := Lib.hid (HQe.out.below hb)
  have HEr := Lib.hid hEr
  clear hEr
  clear hb
  rw [HV.out] at HEr ⊢
  go_wp2_with fail
  refine (L.right l a cap _ HS3.out.et HE.out HSm.out).mono ?_
  rintro e w4 ⟨rfl, hb⟩
  have HS4 := Lib.hid (HS3.out.next hb)
  replace HE := Lib.hid (HE.out.below hb)
  replace HQe := Lib.hid (HQe.out.below hb)
  replace HEr := Lib.hid (HEr.out.below hb)
  clear hb
  rw [hr1]
  go_wp2_with fail
  refine (code_er _ _ _ HEr.out HS4.out.et).mono ?_
  rintro e w5 ⟨rfl, hb⟩
  have HS5 := Lib.hid (HS4.out.next hb)
  replace HE := Lib.hid (HE.out.below hb)
  replace HQe := Lib.hid (HQe.out.below hb)
  clear hb
  go_wp2_with fail
  refine (HLy.out _ HE.out).mono ?_
  rintro e w6 ⟨rfl, hb⟩
  have HS6 := Lib.hid (HS5.out.next hb)
  replace HE := Lib.hid (HE.out.below hb)
  replace HQe := Lib.hid (HQe.out.below hb)
  clear hb
  have e0 := HQe.out.c0
  have e1 := HQe.out.c1
  have e2 := HQe.out.c2
  go_wp2_with fail
  refine (L.put l a cap x _ HS6.out.et HE.out HSm.out HSx.out).mono ?_
  rintro e w7 ⟨a1, cap1, er1, rfl, hE1, hEr1, hb⟩
  have HS7 := Lib.hid (HS6.out.next hb)
  replace HE := Lib.hid (HE.out.below hb)
  replace HQe := Lib.hid (HQe.out.below hb)
  have HE1 := Lib.hid hE1
  have HEr1 := Lib.hid hEr1
  clear hE1 hEr1
  clear hb
  clear e0 e1 e2 hw0 hN
  go_wp2_with fail
  refine (L.drop l a cap p _ HS7.out.et HE.out HSm.out (by have := HZs.out; omega)).mono ?_
  rintro e w8 ⟨a2, cap2, er2, rfl, hE2, hEr2, hb⟩
  have HS8 := Lib.hid (HS7.out.next hb)
  replace HE := Lib.hid (HE.out.below hb)
  replace HQe := Lib.hid (HQe.out.below hb)
  replace HE1 := Lib.hid (HE1.out.below hb)
  replace HEr1 := Lib.hid (HEr1.out.below hb)
  have HE2 := Lib.hid hE2
  have HEr2 := Lib.hid hEr2
  clear hE2 hEr2
  clear hb
  go_wp2_with fail
  refine (L.find l a cap p _ HS8.out.et HE.out HSm.out (by have := HZs.out; omega)).mono ?_
  rintro e w9 ⟨rfl, hb⟩
  have HS9 := Lib.hid (HS8.out.next hb)
  replace HE := Lib.hid (HE.out.below hb)
  replace HQe := Lib.hid (HQe.out.below hb)
  replace HE1 := Lib.hid (HE1.out.below hb)
  replace HEr1 := Lib.hid (HEr1.out.below hb)
  replace HE2 := Lib.hid (HE2.out.below hb)
  replace HEr2 := Lib.hid (HEr2.out.below hb)
  clear hb
  obtain ⟨f, hf⟩ : ∃ f, fdV l p.data.toList = f := ⟨_, rfl⟩
  rw [hf]
  have HF := Lib.hid hf
  clear hf
  have hb : Below w9.heap.size w9 (w9.alloc (.cells #[.string f.1.1, .int .i64 f.1.2.1, .string f.1.2.2] 38)) := (Below.refl _ _).alloc (Nat.le_refl _) _
  have hq := enAt_new w9 f.1.1 f.1.2.1 f.1.2.2
  obtain ⟨w10, hw10⟩ : ∃ w10, w9.alloc (.cells #[.string f.1.1, .int .i64 f.1.2.1, .string f.1.2.2] 38) = w10 := ⟨_, rfl⟩
  obtain ⟨M10, hM10⟩ : ∃ M10, w9.heap.size = M10 := ⟨_, rfl⟩
  rw [hw10] at hb hq
  rw [hM10] at hq
  have HS10 := Lib.hid (HS9.out.next hb)
  replace HE := Lib.hid (HE.out.below hb)
  replace HQe := Lib.hid (HQe.out.below hb)
  replace HE1 := Lib.hid (HE1.out.below hb)
  replace HEr1 := Lib.hid (HEr1.out.below hb)
  replace HE2 := Lib.hid (HE2.out.below hb)
  replace HEr2 := Lib.hid (HEr2.out.below hb)
  have HQf := Lib.hid hq
  clear hb hq
  have hfold : True := trivial
  clear hfold
  go_wp2
  go_loopg [16, 17, 18, 19] l.length (fun g v t h i wx => ∃ (n : Nat) (tb hb' : Bool), t = .bool tb ∧ h = .bool hb' ∧ i = .int .i64 (n : Int) ∧ n + g = l.length ∧ Hid (tb = hasP (l.take n) p.data.toList) ∧ Hid (hb' = hasP (l.take n) (pl x)) ∧ Hid (OwnE wx w10.heap.size v (blw (l.take n) p.data.toList)) ∧ Hid (Below w10.heap.size w10 wx))
  case atStart => exact ⟨0, false, false, rfl, rfl, rfl, by omega, rfl, rfl, by simpa [Hid, blw] using ownE_nil _ _, Below.refl _ _⟩
  case round =>
    obtain ⟨n, tb, hb', rfl, rfl, rfl, hn, HT, HH, HO, HB⟩ := hrel
    by_cases hlt : n < l.length
    · have hlt' : (n : Int) < (l.length : Int) := by omega
      have hwn : IntKind.i64.wrap ((n : Int) + 1) = (n : Int) + 1 := IntWalk.i64_in _ (by have := HSR.out.1; omega)
      have HLN := Lib.hid (show (blw (l.take n) p.data.toList).length ≤ 1000 by
        have h1 : (blw (l.take n) p.data.toList).length ≤ (l.take n).length := List.length_filter_le _ _
        rw [List.length_take] at h1
        have := HSR.out.1
        omega)
      obtain ⟨b, off, e1, hb0, hc⟩ := Ents.at HE.out HB.out hlt
      have HBT := Lib.hid (blw_takeB l p.data.toList n hlt)
      have HT2 := Lib.hid (hasP_take l p.data.toList n hlt)
      have HH2 := Lib.hid (hasP_take l (pl x) n hlt)
      have HYZ := Lib.hid (HSR.out.2 _ (List.getElem_mem hlt))
      obtain ⟨y, hy⟩ : ∃ y, l[n] = y := ⟨_, rfl⟩
      rw [hy] at hc HBT HT2 HH2 HYZ
      have HYK := Lib.hid hy
      clear hy hb0
      cases e1
      have c0 := hc.c0
      clear hc
      go_wp2_with fail
      refine (under_any y.1 p (by have := HYZ.out; omega) (by have := HZs.out; omega) _).mono ?_
      rintro e w11 ⟨rfl, hb⟩
      have HB1 := Lib.hid (HB.out.trans (hb.mono HB.out.size))
      have HO1 := Lib.hid (HO.out.below hb)
      clear hb c0
      obtain ⟨uv, huv⟩ : ∃ uv, und (pl y) p.data.toList = uv := ⟨_, rfl⟩
      rw [show und y.1.data.toList p.data.toList = uv from huv]
      rw [huv] at HBT
      clear huv
      cases uv with
      | true =>
        replace HBT := Lib.hid (show blw (l.take (n + 1)) p.data.toList = blw (l.take n) p.data.toList ++ [y] by rw [HBT.out, if_pos rfl])
        obtain ⟨b9, off9, e9, _, hc⟩ := Ents.at HE.out HB1.out hlt
        rw [HYK.out] at hc
        cases e9
        have c0 := hc.c0
        have c1 := hc.c1
        have c2 := hc.c2
        have e0 := (HQe.out.below HB1.out).c0
        clear hc
        go_wp2_with (at_builtin; refine Stopped.go ?_)
        unfold Stopped
        refine wl_putE (by rfl) _ _ (by rfl) w10.heap.size u16 _ y (by rfl) (HO1.out.below ((Below.refl _ _).alloc (Nat.le_refl _) _)) (by have := HB1.out.size; simp; omega) w11.heap.size (by rfl) (enAt_new w11 y.1 y.2.1 y.2.2) HLN.out ?_
        intro v6 w12 ho hg
        have HB2 := Lib.hid ((HB1.out.alloc HB1.out.size (.cells #[.string y.1, .int .i64 y.2.1, .string y.2.2] 38)).grown hg (by have := HB1.out.size; simp; omega) (fun k hk => (ownE_blk HO1.out k hk).1))
        have HO2 := Lib.hid (show OwnE w12 w10.heap.size v6 (blw (l.take (n + 1)) p.data.toList) by rw [HBT.out]; exact ho)
        clear ho hg c0 c1 c2
        have HTN := Lib.hid (show (tb || (y.1.toList == p.toList)) = hasP (l.take (n + 1)) p.data.toList by rw [HT2.out, HT.out, beq_dec])
        have HHN := Lib.hid (show (hb' || (y.1.toList == x.1.toList)) = hasP (l.take (n + 1)) (pl x) by rw [HH2.out, HH.out, beq_dec])
        clear HT HH HT2 HH2
        obtain ⟨b9, off9, e9, _, hc⟩ := Ents.at HE.out HB2.out hlt
        rw [HYK.out] at hc
        cases e9
        have c0 := hc.c0
        have c1 := hc.c1
        have c2 := hc.c2
        have e0 := (HQe.out.below HB2.out).c0
        clear hc
        cases tb
        all_goals
          cases hb'
          all_goals
            go_wp2_with fail
            refine wp_region_old (by kernel_rfl) (by kernel_rfl) ?_
            repeat (go_big_quiet_step (fail))
            refine wpQuiet_nil ?_
            intro w13 hb
            have HB3 := Lib.hid (show Below w10.heap.size w10 w13 from HB2.out.trans (Below.mono hb HB2.out.size))
            have HO3 := Lib.hid (HO2.out.below hb)
            clear hb
            go_wp2
            go_roundg (gk - 1)
            case measure => omega
            case rel => exact ⟨n + 1, _, _, rfl, rfl, by simp, by omega, by simpa [Hid] using HTN.out, by simpa [Hid] using HHN.out, HO3.out, HB3.out⟩
      | false =>
        have HB2 := HB1
        have HO2 := Lib.hid (show OwnE w11 w10.heap.size u16 (blw (l.take (n + 1)) p.data.toList) by rw [HBT.out, if_neg (by simp), List.append_nil]; exact HO1.out)
        have HTN := Lib.hid (show (tb || (y.1.toList == p.toList)) = hasP (l.take (n + 1)) p.data.toList by rw [HT2.out, HT.out, beq_dec])
        have HHN := Lib.hid (show (hb' || (y.1.toList == x.1.toList)) = hasP (l.take (n + 1)) (pl x) by rw [HH2.out, HH.out, beq_dec])
        clear HT HH HT2 HH2
        obtain ⟨b9, off9, e9, _, hc⟩ := Ents.at HE.out HB2.out hlt
        rw [HYK.out] at hc
        cases e9
        have c0 := hc.c0
        have c1 := hc.c1
        have c2 := hc.c2
        have e0 := (HQe.out.below HB2.out).c0
        clear hc
        cases tb
        all_goals
          cases hb'
          all_goals
            go_wp2_with fail
            refine wp_region_old (by kernel_rfl) (by kernel_rfl) ?_
            repeat (go_big_quiet_step (fail))
            refine wpQuiet_nil ?_
            intro w13 hb
            have HB3 := Lib.hid (show Below w10.heap.size w10 w13 from HB2.out.trans (Below.mono hb HB2.out.size))
            have HO3 := Lib.hid (HO2.out.below hb)
            clear hb
            go_wp2
            go_roundg (gk - 1)
            case measure => omega
            case rel => exact ⟨n + 1, _, _, rfl, rfl, by simp, by omega, by simpa [Hid] using HTN.out, by simpa [Hid] using HHN.out, HO3.out, HB3.out⟩
    · have hlt' : ¬ (n : Int) < (l.length : Int) := by omega
      have e9 : l.take n = l := List.take_of_length_le (by omega)
      rw [e9] at HT HH HO
      clear e9
      obtain ⟨ar, cr, hu16, her⟩ := ents_of_own HO.out
      subst hu16
      have HEB := Lib.hid her
      have hb := HB.out
      have HS14 := Lib.hid (HS10.out.next hb)
      replace HE := Lib.hid (HE.out.below hb)
      replace HQe := Lib.hid (HQe.out.below hb)
      replace HE1 := Lib.hid (HE1.out.below hb)
      replace HEr1 := Lib.hid (HEr1.out.below hb)
      replace HE2 := Lib.hid (HE2.out.below hb)
      replace HEr2 := Lib.hid (HEr2.out.below hb)
      have HV4 := Lib.hid (show bwV l p.data.toList = blw l p.data.toList from if_pos HR.out)
      have HBL := Lib.hid (show (blw l p.data.toList).length ≤ maxLen by
        have h1 : (blw l p.data.toList).length ≤ l.length := List.length_filter_le _ _
        have := HSR.out.1
        unfold maxLen
        omega)
      have hft : f.2 = tb := by
        rw [HT.out, ← HF.out]
        unfold fdV
        rw [if_pos HR.out]
        cases hq : fnd l p.data.toList with
        | none => rw [hasP_fnd] at hq; exact hq.symm
        | some z =>
          cases hq2 : hasP l p.data.toList with
          | true => rfl
          | false => rw [← hasP_fnd, hq] at hq2; cases hq2
      have HWS := Lib.hid (show (wth l x).length ≤ 901 ∧ ∀ e ∈ wth l x, e.1.size ≤ 100000 from ⟨by have := wth_len l x; have := HSR.out.1; omega, fun e he => by
        rcases mem_wth.1 he with rfl | ⟨h9, _⟩
        · have := HZs.out; omega
        · exact HSR.out.2 e h9⟩)
      clear hb her HO HF
      obtain ⟨fe, fb⟩ := f
      simp only at hft
      subst hft
      go_wp2
      go_cut [181] from 159 to 180 (fun v w15 => v = .bool (!rE x) ∧ Hid (Below wr.heap.size wr w15))
      case first =>
        have e0 := HQe.out.c0
        have e1 := HQe.out.c1
        have e2 := HQe.out.c2
        by_cases h0 : x.1.size = 0
        · have g0 : ((x.1.size : Int) == 0) = true := by rw [h0]; rfl
          have HRF := Lib.hid (show rE x = false by
            cases hre : rE x with
            | false => rfl
            | true =>
              have hl := congrArg List.length (rE_isP hre).1.eq
              rw [← Lib.size_eq, h0] at hl
              have h47 := (rE_isP hre).1.1
              have : pl x = [] := List.length_eq_zero_iff.1 (by rw [← Lib.size_eq]; exact h0)
              rw [this] at h47
              cases h47)
          clear h0
          go_wp2_with fail
          refine wp_region_old (by kernel_rfl) (by kernel_rfl) ?_
          repeat (go_big_quiet_step (fail))
          refine wpQuiet_nil ?_
          intro w15 hb
          have HB15 : Hid (Below wr.heap.size wr w15) := hb
          clear hb
          go_wp2_with fail
          go_meet
          exact ⟨by rw [HRF.out]; rfl, HB15.out⟩
        · have g0 : ((x.1.size : Int) == 0) = false := by rw [beq_eq_false_iff_ne]; omega
          have HKS : Hid (∀ X, Below wr.heap.size wr X → X.cell? ⟨N, 0, none⟩ = some (.string x.1) ∧ X.cell? ⟨N, 1, none⟩ = some (.int .i64 x.2.1) ∧ X.cell? ⟨N, 2, none⟩ = some (.string x.2.2)) := fun X hX => ⟨(HQe.out.below hX).c0, (HQe.out.below hX).c1, (HQe.out.below hX).c2⟩
          obtain ⟨q, hq⟩ : ∃ q, bs (lst9 (pl x)) = q := ⟨_, rfl⟩
          have HLast : Hid (∀ X, Below wr.heap.size wr X → Calls Tryd.prog 24 #[.string x.1] X fun r w' => r = .returned (.string q) ∧ Below wr.heap.size wr w') := fun X hX => by
            refine (last9 x.1 (by have := HZs.out; omega) X (HS14.out.next hX).et).mono ?_
            rintro r w' ⟨rfl, hb⟩
            exact ⟨by rw [← hq], hX.trans (hb.mono hX.size)⟩
          have HQ9 := Lib.hid (show q.size ≤ 9 by rw [← hq, bs_size]; exact lst9_len _)
          obtain ⟨v, hv⟩ : ∃ v, decide (RightL [((q, x.2.1, x.2.2) : Ent)]) = v := ⟨_, rfl⟩
          have HWith : Hid (∀ X, Below wr.heap.size wr X → Calls Tryd.prog 23 #[.slice none 0 0, .agg #[.string q, .int .i64 x.2.1, .string x.2.2]] X fun r w' => ∃ a' cap', r = .returned (.slice a' 1 cap') ∧ Ents w' a' cap' [((q, x.2.1, x.2.2) : Ent)] ∧ Below wr.heap.size wr w') := fun X hX => by
            refine (refWith9 [] none 0 ((q, x.2.1, x.2.2) : Ent) X (ents_nil _ _ _) (by simp) (by simp [Asc]) (by simp) (by have := HQ9.out; show q.size ≤ _; omega)).mono ?_
            rintro r w' ⟨a', cap', rfl, h9, hb⟩
            exact ⟨a', cap', rfl, h9, hX.trans (hb.mono hX.size)⟩
          have HRight : Hid (∀ X a' cap', Ents X a' cap' [((q, x.2.1, x.2.2) : Ent)] → Below wr.heap.size wr X → Calls Tryd.prog 19 #[.slice a' 1 cap'] X fun r w' => r = .returned (.bool v) ∧ Below wr.heap.size wr w') := fun X a' cap' h9 hX => by
            refine (refRight9 [((q, x.2.1, x.2.2) : Ent)] a' cap' X h9 (by simp) (fun e he => by
              obtain rfl : e = (q, x.2.1, x.2.2) := by simpa using he
              have := HQ9.out
              show q.size ≤ _
              omega)).mono ?_
            rintro r w' ⟨rfl, hb⟩
            exact ⟨by rw [hv], hX.trans (hb.mono hX.size)⟩
          obtain ⟨dx, hdx⟩ : ∃ dx, dp (pl x) = dx := ⟨_, rfl⟩
          have HDeep : Hid (∀ X, Below wr.heap.size wr X → Calls Tryd.prog 25 #[.string x.1] X fun r w' => r = .returned (.int .i64 dx) ∧ Below wr.heap.size wr w') := fun X hX => by
            refine (deep_any x.1 (by have := HZs.out; omega) X).mono ?_
            rintro r w' ⟨rfl, hb⟩
            exact ⟨by rw [← hdx], hX.trans (hb.mono hX.size)⟩
          have HRV := Lib.hid (show rE x = (v && decide (1 ≤ dx)) by
            rw [Bool.eq_iff_iff, rE_last, hq, Bool.and_eq_true, ← hv, ← hdx, decide_eq_true_iff, decide_eq_true_iff])
          clear h0 hq hv hdx
          have HLastO : Hid (∀ w', OldC wr w' → Calls Tryd.prog 24 #[.string x.1] w' fun e w'' => e = .returned (.string q) ∧ OldC wr w'') := fun w' hw' => HLast.out w' hw'
          go_wp2_with fail
          refine wp_region_old_tail 13 (by kernel_rfl) (by kernel_rfl) ?_
          simp only [List.take_succ_cons, List.take_zero, List.drop_succ_cons, List.drop_zero]
          repeat (go_big_quiet_step ((first | (intro hw; with_reducible exact HLastO.out _ hw))))
          refine wpQuiet_nil ?_
          intro w16 hb
          have HB16 : Hid (Below wr.heap.size wr w16) := hb
          clear hb e0 e1 e2
          go_wp2_with fail
          refine (HWith.out _ HB16.out).mono ?_
          rintro r w17 ⟨a', cap', rfl, h9, hb⟩
          have HB17 : Hid (Below wr.heap.size wr w17) := hb
          have H9 := Lib.hid h9
          clear hb h9
          go_wp2_with fail
          refine (HRight.out _ _ _ H9.out HB17.out).mono ?_
          rintro r w18 ⟨rfl, hb⟩
          have HB18 : Hid (Below wr.heap.size wr w18) := hb
          clear hb
          have e0 := (HKS.out _ HB18.out).1
          cases v with
          | false =>
            have HRF := Lib.hid (show rE x = false by rw [HRV.out, Bool.false_and])
            go_wp2_with fail
            go_meet
            exact ⟨by rw [HRF.out]; rfl, HB18.out⟩
          | true =>
            have HRF := Lib.hid (show decide (dx < 1) = !rE x by
              rw [HRV.out, Bool.true_and, Bool.eq_iff_iff, decide_eq_true_iff, Bool.not_eq_eq_eq_not, Bool.not_true, decide_eq_false_iff_not]
              omega)
            go_wp2_with fail
            refine (HDeep.out _ HB18.out).mono ?_
            rintro r w19 ⟨rfl, hb⟩
            have HB19 : Hid (Below wr.heap.size wr w19) := hb
            clear hb
            go_wp2_with fail
            go_meet
            exact ⟨by rw [← HRF.out]; first | done | rfl | simp, HB19.out⟩
      case rest =>
        obtain ⟨rfl, HB22⟩ := hcut
        have hb := HB22.out
        have HS15 := Lib.hid (HS14.out.next hb)
        replace HE := Lib.hid (HE.out.below hb)
        replace HQe := Lib.hid (HQe.out.below hb)
        replace HE1 := Lib.hid (HE1.out.below hb)
        replace HEr1 := Lib.hid (HEr1.out.below hb)
        replace HE2 := Lib.hid (HE2.out.below hb)
        replace HEr2 := Lib.hid (HEr2.out.below hb)
        replace HEB := Lib.hid (HEB.out.below hb)
        clear hb HB22
        cases hre : rE x with
        | false =>
          have HP1 := Lib.hid (show ptV l x = (1, []) by
            unfold ptV
            rw [if_neg fun h9 => by rw [hre] at h9; cases h9.2])
          rw [HP1.out] at HEr1 HE1 ⊢
          clear hre
          go_wp2_with fail
          refine (code_er _ _ _ HEr1.out HS15.out.et).mono ?_
          rintro e w16 ⟨rfl, hb⟩
          have HS16 := Lib.hid (HS15.out.next hb)
          replace HE := Lib.hid (HE.out.below hb)
          replace HQe := Lib.hid (HQe.out.below hb)
          replace HE1 := Lib.hid (HE1.out.below hb)
          replace HE2 := Lib.hid (HE2.out.below hb)
          replace HEr2 := Lib.hid (HEr2.out.below hb)
          replace HEB := Lib.hid (HEB.out.below hb)
          clear hb
          go_wp2_with fail
          refine (L.below l a cap p _ HS16.out.et HE.out HSm.out (by have := HZs.out; omega)).mono ?_
          rintro e w17 ⟨a5, cap5, rfl, hE5, hb⟩
          have HS17 := Lib.hid (HS16.out.next hb)
          replace HE := Lib.hid (HE.out.below hb)
          replace HE2 := Lib.hid (HE2.out.below hb)
          replace HEr2 := Lib.hid (HEr2.out.below hb)
          replace HEB := Lib.hid (HEB.out.below hb)
          have HE5 := Lib.hid hE5
          clear hE5
          clear hb
          rw [HV4.out] at HE5 ⊢
          go_wp2_with fail
          refine (same9 (blw l p.data.toList) (blw l p.data.toList) a5 ar cap5 cr _ HE5.out HEB.out HBL.out).mono ?_
          rintro e w18 ⟨rfl, hb⟩
          have HS18 := Lib.hid (HS17.out.next hb)
          replace HE := Lib.hid (HE.out.below hb)
          replace HE2 := Lib.hid (HE2.out.below hb)
          replace HEr2 := Lib.hid (HEr2.out.below hb)
          clear hb
          rw [if_pos rfl]
          cases fb with
          | false =>
            have HD := Lib.hid (show dpV l p.data.toList = (3, []) by
              have h9 : fnd l p.data.toList = none := by rw [hasP_fnd]; exact HT.out.symm
              unfold dpV
              rw [if_pos HR.out, if_pos h9])
            rw [HD.out] at HEr2
            go_wp2_with fail
            refine (code_er _ _ _ HEr2.out HS18.out.et).mono ?_
            rintro e w19 ⟨rfl, hb⟩
            have HS19 := Lib.hid (HS18.out.next hb)
            clear hb
            go_wp2
            go_ret
            exact ⟨by first | rfl | simp, HS19.out.below⟩
          | true =>
            have h9 : ¬ fnd l p.data.toList = none := by rw [hasP_fnd, ← HT.out]; simp
            go_wp2_with fail
            refine (refWout9 l a cap p _ HE.out HSR.out.1).mono ?_
            rintro e w19 ⟨a7, cap7, rfl, hE7, hb⟩
            have HS19 := Lib.hid (HS18.out.next hb)
            replace HE2 := Lib.hid (HE2.out.below hb)
            replace HEr2 := Lib.hid (HEr2.out.below hb)
            have HE7 := Lib.hid (Ents.of_row hE7)
            clear hE7
            clear hb
            have HW9 := Lib.hid (show (wout l p.data.toList).length ≤ 900 ∧ ∀ e ∈ wout l p.data.toList, e.1.size ≤ 100000 from ⟨Nat.le_trans (List.length_filter_le _ _) HSR.out.1, fun e he => HSR.out.2 e (List.mem_filter.1 he).1⟩)
            by_cases hrw : RightL (wout l p.data.toList)
            · have HD := Lib.hid (show dpV l p.data.toList = (0, wout l p.data.toList) by
                unfold dpV
                rw [if_pos HR.out, if_neg h9, if_pos hrw])
              have hrw1 := decide_eq_true hrw
              rw [HD.out] at HEr2 HE2 ⊢
              clear hrw h9
              go_wp2_with fail
              refine (refRight9 (wout l p.data.toList) a7 cap7 _ HE7.out (by have := HW9.out.1; omega) HW9.out.2).mono ?_
              rintro e w20 ⟨rfl, hb⟩
              have HS20 := Lib.hid (HS19.out.next hb)
              replace HE2 := Lib.hid (HE2.out.below hb)
              replace HEr2 := Lib.hid (HEr2.out.below hb)
              replace HE7 := Lib.hid (HE7.out.below hb)
              clear hb
              rw [hrw1]
              go_wp2_with fail
              refine (code_er _ _ _ HEr2.out HS20.out.et).mono ?_
              rintro e w21 ⟨rfl, hb⟩
              have HS21 := Lib.hid (HS20.out.next hb)
              replace HE2 := Lib.hid (HE2.out.below hb)
              replace HEr2 := Lib.hid (HEr2.out.below hb)
              replace HE7 := Lib.hid (HE7.out.below hb)
              clear hb
              go_wp2_with fail
              refine (code_er _ _ _ HEr2.out HS21.out.et).mono ?_
              rintro e w22 ⟨rfl, hb⟩
              have HS22 := Lib.hid (HS21.out.next hb)
              replace HE2 := Lib.hid (HE2.out.below hb)
              replace HE7 := Lib.hid (HE7.out.below hb)
              clear hb
              go_wp2_with fail
              refine (same9 (wout l p.data.toList) (wout l p.data.toList) a2 a7 cap2 cap7 _ HE2.out HE7.out (by have := HW9.out.1; unfold maxLen; omega)).mono ?_
              rintro e w23 ⟨rfl, hb⟩
              have HS23 := Lib.hid (HS22.out.next hb)
              clear hb
              rw [if_pos rfl]
              go_wp2
              go_ret
              exact ⟨by first | rfl | simp, HS23.out.below⟩
            · have HD := Lib.hid (show dpV l p.data.toList = (16, []) by
                unfold dpV
                rw [if_pos HR.out, if_neg h9, if_neg hrw])
              have hrw1 := decide_eq_false hrw
              rw [HD.out] at HEr2 HE2 ⊢
              clear hrw h9
              go_wp2_with fail
              refine (refRight9 (wout l p.data.toList) a7 cap7 _ HE7.out (by have := HW9.out.1; omega) HW9.out.2).mono ?_
              rintro e w20 ⟨rfl, hb⟩
              have HS20 := Lib.hid (HS19.out.next hb)
              replace HEr2 := Lib.hid (HEr2.out.below hb)
              clear hb
              rw [hrw1]
              go_wp2_with fail
              refine (code_er _ _ _ HEr2.out HS20.out.et).mono ?_
              rintro e w21 ⟨rfl, hb⟩
              have HS21 := Lib.hid (HS20.out.next hb)
              replace HEr2 := Lib.hid (HEr2.out.below hb)
              clear hb
              go_wp2_with fail
              refine (code_er _ _ _ HEr2.out HS21.out.et).mono ?_
              rintro e w22 ⟨rfl, hb⟩
              have HS22 := Lib.hid (HS21.out.next hb)
              replace HEr2 := Lib.hid (HEr2.out.below hb)
              clear hb
              go_wp2_with fail
              refine (code_er _ _ _ HEr2.out HS22.out.et).mono ?_
              rintro e w23 ⟨rfl, hb⟩
              have HS23 := Lib.hid (HS22.out.next hb)
              clear hb
              go_wp2
              go_ret
              exact ⟨by first | rfl | simp, HS23.out.below⟩
        | true =>
          have HRE := Lib.hid hre
          clear hre
          have way : (fb = fb ∧ hb' = false ∧ ((l.length : Int) == 64) = true ∧ ptV l x = (9, [])) ∨ ((hb' = true ∨ (hb' = false ∧ ((l.length : Int) == 64) = false)) ∧ ptV l x = if RightL (wth l x) then (0, wth l x) else (16, [])) := by
            unfold ptV
            rw [if_pos ⟨HR.out, HRE.out⟩]
            cases hb' with
            | true => exact .inr ⟨.inl rfl, if_neg fun h9 => by rw [hasP_fnd, ← HH.out] at h9; cases h9.1⟩
            | false =>
              by_cases h64 : l.length = 64
              · exact .inl ⟨rfl, rfl, by rw [h64]; rfl, if_pos ⟨by rw [hasP_fnd]; exact HH.out.symm, h64⟩⟩
              · exact .inr ⟨.inr ⟨rfl, by rw [beq_eq_false_iff_ne]; omega⟩, if_neg fun h9 => h64 h9.2⟩
          rcases way with ⟨_, rfl, g64, hP1⟩ | ⟨hway, hP1⟩
          · rw [hP1] at HEr1 HE1 ⊢
            clear hP1
            go_wp2_with fail
            refine (code_er _ _ _ HEr1.out HS15.out.et).mono ?_
            rintro e w16 ⟨rfl, hb⟩
            have HS16 := Lib.hid (HS15.out.next hb)
            replace HE := Lib.hid (HE.out.below hb)
            replace HQe := Lib.hid (HQe.out.below hb)
            replace HE1 := Lib.hid (HE1.out.below hb)
            replace HE2 := Lib.hid (HE2.out.below hb)
            replace HEr2 := Lib.hid (HEr2.out.below hb)
            replace HEB := Lib.hid (HEB.out.below hb)
            clear hb
            go_wp2_with fail
            refine (L.below l a cap p _ HS16.out.et HE.out HSm.out (by have := HZs.out; omega)).mono ?_
            rintro e w17 ⟨a5, cap5, rfl, hE5, hb⟩
            have HS17 := Lib.hid (HS16.out.next hb)
            replace HE := Lib.hid (HE.out.below hb)
            replace HE2 := Lib.hid (HE2.out.below hb)
            replace HEr2 := Lib.hid (HEr2.out.below hb)
            replace HEB := Lib.hid (HEB.out.below hb)
            have HE5 := Lib.hid hE5
            clear hE5
            clear hb
            rw [HV4.out] at HE5 ⊢
            go_wp2_with fail
            refine (same9 (blw l p.data.toList) (blw l p.data.toList) a5 ar cap5 cr _ HE5.out HEB.out HBL.out).mono ?_
            rintro e w18 ⟨rfl, hb⟩
            have HS18 := Lib.hid (HS17.out.next hb)
            replace HE := Lib.hid (HE.out.below hb)
            replace HE2 := Lib.hid (HE2.out.below hb)
            replace HEr2 := Lib.hid (HEr2.out.below hb)
            clear hb
            rw [if_pos rfl]
            cases fb with
            | false =>
              have HD := Lib.hid (show dpV l p.data.toList = (3, []) by
                have h9 : fnd l p.data.toList = none := by rw [hasP_fnd]; exact HT.out.symm
                unfold dpV
                rw [if_pos HR.out, if_pos h9])
              rw [HD.out] at HEr2
              go_wp2_with fail
              refine (code_er _ _ _ HEr2.out HS18.out.et).mono ?_
              rintro e w19 ⟨rfl, hb⟩
              have HS19 := Lib.hid (HS18.out.next hb)
              clear hb
              go_wp2
              go_ret
              exact ⟨by first | rfl | simp, HS19.out.below⟩
            | true =>
              have h9 : ¬ fnd l p.data.toList = none := by rw [hasP_fnd, ← HT.out]; simp
              go_wp2_with fail
              refine (refWout9 l a cap p _ HE.out HSR.out.1).mono ?_
              rintro e w19 ⟨a7, cap7, rfl, hE7, hb⟩
              have HS19 := Lib.hid (HS18.out.next hb)
              replace HE2 := Lib.hid (HE2.out.below hb)
              replace HEr2 := Lib.hid (HEr2.out.below hb)
              have HE7 := Lib.hid (Ents.of_row hE7)
              clear hE7
              clear hb
              have HW9 := Lib.hid (show (wout l p.data.toList).length ≤ 900 ∧ ∀ e ∈ wout l p.data.toList, e.1.size ≤ 100000 from ⟨Nat.le_trans (List.length_filter_le _ _) HSR.out.1, fun e he => HSR.out.2 e (List.mem_filter.1 he).1⟩)
              by_cases hrw : RightL (wout l p.data.toList)
              · have HD := Lib.hid (show dpV l p.data.toList = (0, wout l p.data.toList) by
                  unfold dpV
                  rw [if_pos HR.out, if_neg h9, if_pos hrw])
                have hrw1 := decide_eq_true hrw
                rw [HD.out] at HEr2 HE2 ⊢
                clear hrw h9
                go_wp2_with fail
                refine (refRight9 (wout l p.data.toList) a7 cap7 _ HE7.out (by have := HW9.out.1; omega) HW9.out.2).mono ?_
                rintro e w20 ⟨rfl, hb⟩
                have HS20 := Lib.hid (HS19.out.next hb)
                replace HE2 := Lib.hid (HE2.out.below hb)
                replace HEr2 := Lib.hid (HEr2.out.below hb)
                replace HE7 := Lib.hid (HE7.out.below hb)
                clear hb
                rw [hrw1]
                go_wp2_with fail
                refine (code_er _ _ _ HEr2.out HS20.out.et).mono ?_
                rintro e w21 ⟨rfl, hb⟩
                have HS21 := Lib.hid (HS20.out.next hb)
                replace HE2 := Lib.hid (HE2.out.below hb)
                replace HEr2 := Lib.hid (HEr2.out.below hb)
                replace HE7 := Lib.hid (HE7.out.below hb)
                clear hb
                go_wp2_with fail
                refine (code_er _ _ _ HEr2.out HS21.out.et).mono ?_
                rintro e w22 ⟨rfl, hb⟩
                have HS22 := Lib.hid (HS21.out.next hb)
                replace HE2 := Lib.hid (HE2.out.below hb)
                replace HE7 := Lib.hid (HE7.out.below hb)
                clear hb
                go_wp2_with fail
                refine (same9 (wout l p.data.toList) (wout l p.data.toList) a2 a7 cap2 cap7 _ HE2.out HE7.out (by have := HW9.out.1; unfold maxLen; omega)).mono ?_
                rintro e w23 ⟨rfl, hb⟩
                have HS23 := Lib.hid (HS22.out.next hb)
                clear hb
                rw [if_pos rfl]
                go_wp2
                go_ret
                exact ⟨by first | rfl | simp, HS23.out.below⟩
              · have HD := Lib.hid (show dpV l p.data.toList = (16, []) by
                  unfold dpV
                  rw [if_pos HR.out, if_neg h9, if_neg hrw])
                have hrw1 := decide_eq_false hrw
                rw [HD.out] at HEr2 HE2 ⊢
                clear hrw h9
                go_wp2_with fail
                refine (refRight9 (wout l p.data.toList) a7 cap7 _ HE7.out (by have := HW9.out.1; omega) HW9.out.2).mono ?_
                rintro e w20 ⟨rfl, hb⟩
                have HS20 := Lib.hid (HS19.out.next hb)
                replace HEr2 := Lib.hid (HEr2.out.below hb)
                clear hb
                rw [hrw1]
                go_wp2_with fail
                refine (code_er _ _ _ HEr2.out HS20.out.et).mono ?_
                rintro e w21 ⟨rfl, hb⟩
                have HS21 := Lib.hid (HS20.out.next hb)
                replace HEr2 := Lib.hid (HEr2.out.below hb)
                clear hb
                go_wp2_with fail
                refine (code_er _ _ _ HEr2.out HS21.out.et).mono ?_
                rintro e w22 ⟨rfl, hb⟩
                have HS22 := Lib.hid (HS21.out.next hb)
                replace HEr2 := Lib.hid (HEr2.out.below hb)
                clear hb
                go_wp2_with fail
                refine (code_er _ _ _ HEr2.out HS22.out.et).mono ?_
                rintro e w23 ⟨rfl, hb⟩
                have HS23 := Lib.hid (HS22.out.next hb)
                clear hb
                go_wp2
                go_ret
                exact ⟨by first | rfl | simp, HS23.out.below⟩
          · by_cases hrw : RightL (wth l x)
            · have HRw := Lib.hid hrw
              have hrw1 := decide_eq_true hrw
              rw [if_pos hrw] at hP1
              rw [hP1] at HEr1 HE1 ⊢
              clear hP1 hrw
              rcases hway with rfl | ⟨rfl, g64⟩
              all_goals
                have e0 := HQe.out.c0
                have e1 := HQe.out.c1
                have e2 := HQe.out.c2
                go_wp2_with fail
                refine (refWith9 l a cap x _ HE.out HSR.out.1 HR.out.2.2.1 HSR.out.2 (by have := HZs.out; omega)).mono ?_
                rintro e w16 ⟨a8, cap8, rfl, hE8, hb⟩
                have HS16 := Lib.hid (HS15.out.next hb)
                replace HE := Lib.hid (HE.out.below hb)
                replace HQe := Lib.hid (HQe.out.below hb)
                replace HE1 := Lib.hid (HE1.out.below hb)
                replace HEr1 := Lib.hid (HEr1.out.below hb)
                replace HE2 := Lib.hid (HE2.out.below hb)
                replace HEr2 := Lib.hid (HEr2.out.below hb)
                replace HEB := Lib.hid (HEB.out.below hb)
                have HE8 := Lib.hid (Ents.of_row hE8)
                clear hE8
                clear hb
                clear e0 e1 e2
                go_wp2_with fail
                refine (refRight9 (wth l x) a8 cap8 _ HE8.out (by have := HWS.out.1; omega) HWS.out.2).mono ?_
                rintro e w17 ⟨rfl, hb⟩
                have HS17 := Lib.hid (HS16.out.next hb)
                replace HE := Lib.hid (HE.out.below hb)
                replace HQe := Lib.hid (HQe.out.below hb)
                replace HE1 := Lib.hid (HE1.out.below hb)
                replace HEr1 := Lib.hid (HEr1.out.below hb)
                replace HE2 := Lib.hid (HE2.out.below hb)
                replace HEr2 := Lib.hid (HEr2.out.below hb)
                replace HEB := Lib.hid (HEB.out.below hb)
                clear hb
                rw [hrw1]
                go_wp2_with fail
                refine (code_er _ _ _ HEr1.out HS17.out.et).mono ?_
                rintro e w18 ⟨rfl, hb⟩
                have HS18 := Lib.hid (HS17.out.next hb)
                replace HE := Lib.hid (HE.out.below hb)
                replace HQe := Lib.hid (HQe.out.below hb)
                replace HE1 := Lib.hid (HE1.out.below hb)
                replace HE2 := Lib.hid (HE2.out.below hb)
                replace HEr2 := Lib.hid (HEr2.out.below hb)
                replace HEB := Lib.hid (HEB.out.below hb)
                clear hb
                have e0 := HQe.out.c0
                have e1 := HQe.out.c1
                have e2 := HQe.out.c2
                go_wp2_with fail
                refine (refWith9 l a cap x _ HE.out HSR.out.1 HR.out.2.2.1 HSR.out.2 (by have := HZs.out; omega)).mono ?_
                rintro e w19 ⟨a6, cap6, rfl, hE6, hb⟩
                have HS19 := Lib.hid (HS18.out.next hb)
                replace HE := Lib.hid (HE.out.below hb)
                replace HQe := Lib.hid (HQe.out.below hb)
                replace HE1 := Lib.hid (HE1.out.below hb)
                replace HE2 := Lib.hid (HE2.out.below hb)
                replace HEr2 := Lib.hid (HEr2.out.below hb)
                replace HEB := Lib.hid (HEB.out.below hb)
                have HE6 := Lib.hid (Ents.of_row hE6)
                clear hE6
                clear hb
                clear e0 e1 e2
                go_wp2_with fail
                refine (same9 (wth l x) (wth l x) a1 a6 cap1 cap6 _ HE1.out HE6.out (by have := HRw.out.1; unfold maxLen; omega)).mono ?_
                rintro e w20 ⟨rfl, hb⟩
                have HS20 := Lib.hid (HS19.out.next hb)
                replace HE := Lib.hid (HE.out.below hb)
                replace HE2 := Lib.hid (HE2.out.below hb)
                replace HEr2 := Lib.hid (HEr2.out.below hb)
                replace HEB := Lib.hid (HEB.out.below hb)
                clear hb
                rw [if_pos rfl]
                go_wp2_with fail
                refine (L.below l a cap p _ HS20.out.et HE.out HSm.out (by have := HZs.out; omega)).mono ?_
                rintro e w21 ⟨a5, cap5, rfl, hE5, hb⟩
                have HS21 := Lib.hid (HS20.out.next hb)
                replace HE := Lib.hid (HE.out.below hb)
                replace HE2 := Lib.hid (HE2.out.below hb)
                replace HEr2 := Lib.hid (HEr2.out.below hb)
                replace HEB := Lib.hid (HEB.out.below hb)
                have HE5 := Lib.hid hE5
                clear hE5
                clear hb
                rw [HV4.out] at HE5 ⊢
                go_wp2_with fail
                refine (same9 (blw l p.data.toList) (blw l p.data.toList) a5 ar cap5 cr _ HE5.out HEB.out HBL.out).mono ?_
                rintro e w22 ⟨rfl, hb⟩
                have HS22 := Lib.hid (HS21.out.next hb)
                replace HE := Lib.hid (HE.out.below hb)
                replace HE2 := Lib.hid (HE2.out.below hb)
                replace HEr2 := Lib.hid (HEr2.out.below hb)
                clear hb
                rw [if_pos rfl]
                cases fb with
                | false =>
                  have HD := Lib.hid (show dpV l p.data.toList = (3, []) by
                    have h9 : fnd l p.data.toList = none := by rw [hasP_fnd]; exact HT.out.symm
                    unfold dpV
                    rw [if_pos HR.out, if_pos h9])
                  rw [HD.out] at HEr2
                  go_wp2_with fail
                  refine (code_er _ _ _ HEr2.out HS22.out.et).mono ?_
                  rintro e w23 ⟨rfl, hb⟩
                  have HS23 := Lib.hid (HS22.out.next hb)
                  clear hb
                  go_wp2
                  go_ret
                  exact ⟨by first | rfl | simp, HS23.out.below⟩
                | true =>
                  have h9 : ¬ fnd l p.data.toList = none := by rw [hasP_fnd, ← HT.out]; simp
                  go_wp2_with fail
                  refine (refWout9 l a cap p _ HE.out HSR.out.1).mono ?_
                  rintro e w23 ⟨a7, cap7, rfl, hE7, hb⟩
                  have HS23 := Lib.hid (HS22.out.next hb)
                  replace HE2 := Lib.hid (HE2.out.below hb)
                  replace HEr2 := Lib.hid (HEr2.out.below hb)
                  have HE7 := Lib.hid (Ents.of_row hE7)
                  clear hE7
                  clear hb
                  have HW9 := Lib.hid (show (wout l p.data.toList).length ≤ 900 ∧ ∀ e ∈ wout l p.data.toList, e.1.size ≤ 100000 from ⟨Nat.le_trans (List.length_filter_le _ _) HSR.out.1, fun e he => HSR.out.2 e (List.mem_filter.1 he).1⟩)
                  by_cases hrw : RightL (wout l p.data.toList)
                  · have HD := Lib.hid (show dpV l p.data.toList = (0, wout l p.data.toList) by
                      unfold dpV
                      rw [if_pos HR.out, if_neg h9, if_pos hrw])
                    have hrw1 := decide_eq_true hrw
                    rw [HD.out] at HEr2 HE2 ⊢
                    clear hrw h9
                    go_wp2_with fail
                    refine (refRight9 (wout l p.data.toList) a7 cap7 _ HE7.out (by have := HW9.out.1; omega) HW9.out.2).mono ?_
                    rintro e w24 ⟨rfl, hb⟩
                    have HS24 := Lib.hid (HS23.out.next hb)
                    replace HE2 := Lib.hid (HE2.out.below hb)
                    replace HEr2 := Lib.hid (HEr2.out.below hb)
                    replace HE7 := Lib.hid (HE7.out.below hb)
                    clear hb
                    rw [hrw1]
                    go_wp2_with fail
                    refine (code_er _ _ _ HEr2.out HS24.out.et).mono ?_
                    rintro e w25 ⟨rfl, hb⟩
                    have HS25 := Lib.hid (HS24.out.next hb)
                    replace HE2 := Lib.hid (HE2.out.below hb)
                    replace HEr2 := Lib.hid (HEr2.out.below hb)
                    replace HE7 := Lib.hid (HE7.out.below hb)
                    clear hb
                    go_wp2_with fail
                    refine (code_er _ _ _ HEr2.out HS25.out.et).mono ?_
                    rintro e w26 ⟨rfl, hb⟩
                    have HS26 := Lib.hid (HS25.out.next hb)
                    replace HE2 := Lib.hid (HE2.out.below hb)
                    replace HE7 := Lib.hid (HE7.out.below hb)
                    clear hb
                    go_wp2_with fail
                    refine (same9 (wout l p.data.toList) (wout l p.data.toList) a2 a7 cap2 cap7 _ HE2.out HE7.out (by have := HW9.out.1; unfold maxLen; omega)).mono ?_
                    rintro e w27 ⟨rfl, hb⟩
                    have HS27 := Lib.hid (HS26.out.next hb)
                    clear hb
                    rw [if_pos rfl]
                    go_wp2
                    go_ret
                    exact ⟨by first | rfl | simp, HS27.out.below⟩
                  · have HD := Lib.hid (show dpV l p.data.toList = (16, []) by
                      unfold dpV
                      rw [if_pos HR.out, if_neg h9, if_neg hrw])
                    have hrw1 := decide_eq_false hrw
                    rw [HD.out] at HEr2 HE2 ⊢
                    clear hrw h9
                    go_wp2_with fail
                    refine (refRight9 (wout l p.data.toList) a7 cap7 _ HE7.out (by have := HW9.out.1; omega) HW9.out.2).mono ?_
                    rintro e w24 ⟨rfl, hb⟩
                    have HS24 := Lib.hid (HS23.out.next hb)
                    replace HEr2 := Lib.hid (HEr2.out.below hb)
                    clear hb
                    rw [hrw1]
                    go_wp2_with fail
                    refine (code_er _ _ _ HEr2.out HS24.out.et).mono ?_
                    rintro e w25 ⟨rfl, hb⟩
                    have HS25 := Lib.hid (HS24.out.next hb)
                    replace HEr2 := Lib.hid (HEr2.out.below hb)
                    clear hb
                    go_wp2_with fail
                    refine (code_er _ _ _ HEr2.out HS25.out.et).mono ?_
                    rintro e w26 ⟨rfl, hb⟩
                    have HS26 := Lib.hid (HS25.out.next hb)
                    replace HEr2 := Lib.hid (HEr2.out.below hb)
                    clear hb
                    go_wp2_with fail
                    refine (code_er _ _ _ HEr2.out HS26.out.et).mono ?_
                    rintro e w27 ⟨rfl, hb⟩
                    have HS27 := Lib.hid (HS26.out.next hb)
                    clear hb
                    go_wp2
                    go_ret
                    exact ⟨by first | rfl | simp, HS27.out.below⟩
            · have hrw1 := decide_eq_false hrw
              rw [if_neg hrw] at hP1
              rw [hP1] at HEr1 HE1 ⊢
              clear hP1 hrw
              rcases hway with rfl | ⟨rfl, g64⟩
              all_goals
                have e0 := HQe.out.c0
                have e1 := HQe.out.c1
                have e2 := HQe.out.c2
                go_wp2_with fail
                refine (refWith9 l a cap x _ HE.out HSR.out.1 HR.out.2.2.1 HSR.out.2 (by have := HZs.out; omega)).mono ?_
                rintro e w16 ⟨a8, cap8, rfl, hE8, hb⟩
                have HS16 := Lib.hid (HS15.out.next hb)
                replace HE := Lib.hid (HE.out.below hb)
                replace HQe := Lib.hid (HQe.out.below hb)
                replace HE1 := Lib.hid (HE1.out.below hb)
                replace HEr1 := Lib.hid (HEr1.out.below hb)
                replace HE2 := Lib.hid (HE2.out.below hb)
                replace HEr2 := Lib.hid (HEr2.out.below hb)
                replace HEB := Lib.hid (HEB.out.below hb)
                have HE8 := Lib.hid (Ents.of_row hE8)
                clear hE8
                clear hb
                clear e0 e1 e2
                go_wp2_with fail
                refine (refRight9 (wth l x) a8 cap8 _ HE8.out (by have := HWS.out.1; omega) HWS.out.2).mono ?_
                rintro e w17 ⟨rfl, hb⟩
                have HS17 := Lib.hid (HS16.out.next hb)
                replace HE := Lib.hid (HE.out.below hb)
                replace HQe := Lib.hid (HQe.out.below hb)
                replace HE1 := Lib.hid (HE1.out.below hb)
                replace HEr1 := Lib.hid (HEr1.out.below hb)
                replace HE2 := Lib.hid (HE2.out.below hb)
                replace HEr2 := Lib.hid (HEr2.out.below hb)
                replace HEB := Lib.hid (HEB.out.below hb)
                clear hb
                rw [hrw1]
                go_wp2_with fail
                refine (code_er _ _ _ HEr1.out HS17.out.et).mono ?_
                rintro e w18 ⟨rfl, hb⟩
                have HS18 := Lib.hid (HS17.out.next hb)
                replace HE := Lib.hid (HE.out.below hb)
                replace HQe := Lib.hid (HQe.out.below hb)
                replace HE1 := Lib.hid (HE1.out.below hb)
                replace HE2 := Lib.hid (HE2.out.below hb)
                replace HEr2 := Lib.hid (HEr2.out.below hb)
                replace HEB := Lib.hid (HEB.out.below hb)
                clear hb
                go_wp2_with fail
                refine (L.below l a cap p _ HS18.out.et HE.out HSm.out (by have := HZs.out; omega)).mono ?_
                rintro e w19 ⟨a5, cap5, rfl, hE5, hb⟩
                have HS19 := Lib.hid (HS18.out.next hb)
                replace HE := Lib.hid (HE.out.below hb)
                replace HE2 := Lib.hid (HE2.out.below hb)
                replace HEr2 := Lib.hid (HEr2.out.below hb)
                replace HEB := Lib.hid (HEB.out.below hb)
                have HE5 := Lib.hid hE5
                clear hE5
                clear hb
                rw [HV4.out] at HE5 ⊢
                go_wp2_with fail
                refine (same9 (blw l p.data.toList) (blw l p.data.toList) a5 ar cap5 cr _ HE5.out HEB.out HBL.out).mono ?_
                rintro e w20 ⟨rfl, hb⟩
                have HS20 := Lib.hid (HS19.out.next hb)
                replace HE := Lib.hid (HE.out.below hb)
                replace HE2 := Lib.hid (HE2.out.below hb)
                replace HEr2 := Lib.hid (HEr2.out.below hb)
                clear hb
                rw [if_pos rfl]
                cases fb with
                | false =>
                  have HD := Lib.hid (show dpV l p.data.toList = (3, []) by
                    have h9 : fnd l p.data.toList = none := by rw [hasP_fnd]; exact HT.out.symm
                    unfold dpV
                    rw [if_pos HR.out, if_pos h9])
                  rw [HD.out] at HEr2
                  go_wp2_with fail
                  refine (code_er _ _ _ HEr2.out HS20.out.et).mono ?_
                  rintro e w21 ⟨rfl, hb⟩
                  have HS21 := Lib.hid (HS20.out.next hb)
                  clear hb
                  go_wp2
                  go_ret
                  exact ⟨by first | rfl | simp, HS21.out.below⟩
                | true =>
                  have h9 : ¬ fnd l p.data.toList = none := by rw [hasP_fnd, ← HT.out]; simp
                  go_wp2_with fail
                  refine (refWout9 l a cap p _ HE.out HSR.out.1).mono ?_
                  rintro e w21 ⟨a7, cap7, rfl, hE7, hb⟩
                  have HS21 := Lib.hid (HS20.out.next hb)
                  replace HE2 := Lib.hid (HE2.out.below hb)
                  replace HEr2 := Lib.hid (HEr2.out.below hb)
                  have HE7 := Lib.hid (Ents.of_row hE7)
                  clear hE7
                  clear hb
                  have HW9 := Lib.hid (show (wout l p.data.toList).length ≤ 900 ∧ ∀ e ∈ wout l p.data.toList, e.1.size ≤ 100000 from ⟨Nat.le_trans (List.length_filter_le _ _) HSR.out.1, fun e he => HSR.out.2 e (List.mem_filter.1 he).1⟩)
                  by_cases hrw : RightL (wout l p.data.toList)
                  · have HD := Lib.hid (show dpV l p.data.toList = (0, wout l p.data.toList) by
                      unfold dpV
                      rw [if_pos HR.out, if_neg h9, if_pos hrw])
                    have hrw1 := decide_eq_true hrw
                    rw [HD.out] at HEr2 HE2 ⊢
                    clear hrw h9
                    go_wp2_with fail
                    refine (refRight9 (wout l p.data.toList) a7 cap7 _ HE7.out (by have := HW9.out.1; omega) HW9.out.2).mono ?_
                    rintro e w22 ⟨rfl, hb⟩
                    have HS22 := Lib.hid (HS21.out.next hb)
                    replace HE2 := Lib.hid (HE2.out.below hb)
                    replace HEr2 := Lib.hid (HEr2.out.below hb)
                    replace HE7 := Lib.hid (HE7.out.below hb)
                    clear hb
                    rw [hrw1]
                    go_wp2_with fail
                    refine (code_er _ _ _ HEr2.out HS22.out.et).mono ?_
                    rintro e w23 ⟨rfl, hb⟩
                    have HS23 := Lib.hid (HS22.out.next hb)
                    replace HE2 := Lib.hid (HE2.out.below hb)
                    replace HEr2 := Lib.hid (HEr2.out.below hb)
                    replace HE7 := Lib.hid (HE7.out.below hb)
                    clear hb
                    go_wp2_with fail
                    refine (code_er _ _ _ HEr2.out HS23.out.et).mono ?_
                    rintro e w24 ⟨rfl, hb⟩
                    have HS24 := Lib.hid (HS23.out.next hb)
                    replace HE2 := Lib.hid (HE2.out.below hb)
                    replace HE7 := Lib.hid (HE7.out.below hb)
                    clear hb
                    go_wp2_with fail
                    refine (same9 (wout l p.data.toList) (wout l p.data.toList) a2 a7 cap2 cap7 _ HE2.out HE7.out (by have := HW9.out.1; unfold maxLen; omega)).mono ?_
                    rintro e w25 ⟨rfl, hb⟩
                    have HS25 := Lib.hid (HS24.out.next hb)
                    clear hb
                    rw [if_pos rfl]
                    go_wp2
                    go_ret
                    exact ⟨by first | rfl | simp, HS25.out.below⟩
                  · have HD := Lib.hid (show dpV l p.data.toList = (16, []) by
                      unfold dpV
                      rw [if_pos HR.out, if_neg h9, if_neg hrw])
                    have hrw1 := decide_eq_false hrw
                    rw [HD.out] at HEr2 HE2 ⊢
                    clear hrw h9
                    go_wp2_with fail
                    refine (refRight9 (wout l p.data.toList) a7 cap7 _ HE7.out (by have := HW9.out.1; omega) HW9.out.2).mono ?_
                    rintro e w22 ⟨rfl, hb⟩
                    have HS22 := Lib.hid (HS21.out.next hb)
                    replace HEr2 := Lib.hid (HEr2.out.below hb)
                    clear hb
                    rw [hrw1]
                    go_wp2_with fail
                    refine (code_er _ _ _ HEr2.out HS22.out.et).mono ?_
                    rintro e w23 ⟨rfl, hb⟩
                    have HS23 := Lib.hid (HS22.out.next hb)
                    replace HEr2 := Lib.hid (HEr2.out.below hb)
                    clear hb
                    go_wp2_with fail
                    refine (code_er _ _ _ HEr2.out HS23.out.et).mono ?_
                    rintro e w24 ⟨rfl, hb⟩
                    have HS24 := Lib.hid (HS23.out.next hb)
                    replace HEr2 := Lib.hid (HEr2.out.below hb)
                    clear hb
                    go_wp2_with fail
                    refine (code_er _ _ _ HEr2.out HS24.out.et).mono ?_
                    rintro e w25 ⟨rfl, hb⟩
                    have HS25 := Lib.hid (HS24.out.next hb)
                    clear hb
                    go_wp2
                    go_ret
                    exact ⟨by first | rfl | simp, HS25.out.below⟩
theorem lawPlays (L : Layer9) (l : List Ent) (a : Option Addr) (cap : Nat) (x : Ent) (p : ByteArray) (W : World) (hg : EtLaid W) (h : Ents W a cap l) : Calls Tryd.prog 5 #[.slice a l.length cap, enV x, .string p] W fun e w' => e = .returned (.bool true) ∧ Below W.heap.size W w' := by
  by_cases hz : SizeOK l
  · by_cases hs : x.1.size ≤ 100 ∧ x.2.2.size ≤ 600 ∧ p.size ≤ 100
    · by_cases hr : RightL l
      · exact plays_good L l a cap x p W hg h hz hs hr
      · exact plays_wrong L l a cap x p W hg h hz hs hr
    · exact plays_bad L l a cap x p W hg h (.inr ⟨hz, hs⟩)
  · exact plays_bad L l a cap x p W hg h (.inl hz)
end Go.Proofs.YtflomllfehoedaaDoor
