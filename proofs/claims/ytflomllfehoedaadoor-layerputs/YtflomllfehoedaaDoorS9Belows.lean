/-
  The law LayerBelows walked over Layer9: for every list of entries and text it returns true and changes nothing that was there. Conditions: package layer answers as Layer9 says; the list lies in memory; errorType holds error's type.
-/
import Derived.Test.YtflomllfehoedaaDoorPk7
namespace Go.Proofs.YtflomllfehoedaaDoor
open Go.RowKit

theorem blw_takeB (l : List Ent) (p : List UInt8) (n : Nat) (h : n < l.length) : blw (l.take (n + 1)) p = blw (l.take n) p ++ (if und (pl l[n]) p then [l[n]] else []) := filter_take _ n h
theorem rst_take (l : List Ent) (p : List UInt8) (n : Nat) (h : n < l.length) : rst (l.take (n + 1)) p = rst (l.take n) p ++ (if (!und (pl l[n]) p && decide (pl l[n] ≠ p)) then [l[n]] else []) := filter_take _ n h
theorem blw_at (l : List Ent) (p : List UInt8) (n : Nat) (h : n < l.length) (hu : und (pl l[n]) p = true) : (blw l p)[(blw (l.take n) p).length]? = some l[n] := by
  have e : blw l p = blw (l.take n) p ++ blw (l.drop n) p := by
    unfold blw
    rw [← List.filter_append, List.take_append_drop]
  rw [e, List.getElem?_append_right (Nat.le_refl _), Nat.sub_self, List.drop_eq_getElem_cons h]
  unfold blw
  rw [List.filter_cons_of_pos (by simpa using hu)]
  rfl
theorem blw_mem {l : List Ent} {p : List UInt8} {e : Ent} (h : e ∈ blw l p) : und (pl e) p = true := by simpa using (List.mem_filter.1 h).2
attribute [local go_sem ↓] old_ldi old_lds old_lde3 old_eqen old_neen
attribute [local go_sem] oldC_forall isC1_ptr isS1_ptr c1V_ptr isE3_ptr e3V_ptr isEv_agg evEq_agg eta_ent
set_option maxRecDepth 10000 in
set_option maxHeartbeats 4000000 in
theorem lawBelows (L : Layer9) (l : List Ent) (a : Option Addr) (cap : Nat) (p : ByteArray) (W : World) (hg : EtLaid W) (h : Ents W a cap l) : Calls Tryd.prog 8 #[.slice a l.length cap, .string p] W fun e w' => e = .returned (.bool true) ∧ Below W.heap.size W w' := by
  have HS0 := Lib.hid (st_self hg)
  have HE := Lib.hid h
  clear hg h
  by_cases hz : SizeOK l
  · have HSm := Lib.hid (sm_size hz)
    have hZ1 : (if SizeOK l then (1 : Int) else 0) = 1 := if_pos hz
    clear hz
    by_cases hr : RightL l
    · have hr1 : decide (RightL l) = true := decide_eq_true hr
      have HR := Lib.hid hr
      clear hr
      by_cases hp : (100 : Int) < (p.size : Int)
      · skip
        go_enter Tryd.func8, Tryd.ntmps8
        go_wp2_with fail
        refine (awake9 L _ HS0.out.et).mono ?_
        rintro e w1 ⟨rfl, hb⟩
        have HS1 := Lib.hid (HS0.out.next hb)
        replace HE := Lib.hid (HE.out.below hb)
        clear hb
        go_wp2_with fail
        refine (size9 l a cap _ HE.out).mono ?_
        rintro e w9 ⟨rfl, rfl⟩
        rw [hZ1]
        go_wp2_with fail
        refine (L.right l a cap _ HS1.out.et HE.out HSm.out).mono ?_
        rintro e w2 ⟨rfl, hb⟩
        have HS2 := Lib.hid (HS1.out.next hb)
        replace HE := Lib.hid (HE.out.below hb)
        clear hb
        rw [hr1]
        go_wp2_with fail
        refine (awake9 L _ HS2.out.et).mono ?_
        rintro e w3 ⟨rfl, hb⟩
        have HS3 := Lib.hid (HS2.out.next hb)
        clear hb
        go_wp2
        go_ret
        exact ⟨by first | rfl | simp, HS3.out.below⟩
      · have HP := Lib.hid (show p.size ≤ 100 by omega)
        have HBV := Lib.hid (show bwV l p.data.toList = blw l p.data.toList from if_pos HR.out)
        have HL := Lib.hid HSm.out.1
        go_enter Tryd.func8, Tryd.ntmps8
        go_wp2_with fail
        refine (awake9 L _ HS0.out.et).mono ?_
        rintro e w1 ⟨rfl, hb⟩
        have HS1 := Lib.hid (HS0.out.next hb)
        replace HE := Lib.hid (HE.out.below hb)
        clear hb
        go_wp2_with fail
        refine (size9 l a cap _ HE.out).mono ?_
        rintro e w9 ⟨rfl, rfl⟩
        rw [hZ1]
        go_wp2_with fail
        refine (L.right l a cap _ HS1.out.et HE.out HSm.out).mono ?_
        rintro e w2 ⟨rfl, hb⟩
        have HS2 := Lib.hid (HS1.out.next hb)
        replace HE := Lib.hid (HE.out.below hb)
        clear hb
        rw [hr1]
        go_wp2_with fail
        refine (L.below l a cap p _ HS2.out.et HE.out HSm.out (by have := HP.out; omega)).mono ?_
        rintro e w3 ⟨a2, cap2, rfl, hE2, hb⟩
        have HS3 := Lib.hid (HS2.out.next hb)
        replace HE := Lib.hid (HE.out.below hb)
        have HE2 := Lib.hid hE2
        clear hE2
        clear hb
        rw [HBV.out] at HE2 ⊢
        have HEB := Lib.hid (And.intro HE.out HE2.out)
        clear HE HE2
        go_wp2
        go_loopg [6, 7, 8] l.length (fun g r k i wx => ∃ (n m : Nat), k = .int .i64 (m : Int) ∧ i = .int .i64 (n : Int) ∧ n + g = l.length ∧ Hid (m = (blw (l.take n) p.data.toList).length) ∧ Hid (OwnE wx w3.heap.size r (rst (l.take n) p.data.toList)) ∧ Hid (Below w3.heap.size w3 wx))
        case atStart => exact ⟨0, 0, rfl, rfl, by omega, by simp [Hid, blw], by simpa [Hid, rst] using ownE_nil _ _, Below.refl _ _⟩
        case round =>
          obtain ⟨n, m, rfl, rfl, hn, HM, HO, HB⟩ := hrel
          have HML := Lib.hid (show m ≤ 1000 ∧ (rst (l.take n) p.data.toList).length ≤ 900 by
            have h1 : (blw (l.take n) p.data.toList).length ≤ (l.take n).length := List.length_filter_le _ _
            have h2 := len_rst (l.take n) p.data.toList
            have h3 := HR.out.1
            have h4 := HM.out
            rw [List.length_take] at h1 h2
            omega)
          by_cases hlt : n < l.length
          · have hlt' : (n : Int) < (l.length : Int) := by omega
            have hwn : IntKind.i64.wrap ((n : Int) + 1) = (n : Int) + 1 := IntWalk.i64_in _ (by have := HL.out; omega)
            have hwm : IntKind.i64.wrap ((m : Int) + 1) = (m : Int) + 1 := IntWalk.i64_in _ (by have := HML.out.1; omega)
            obtain ⟨b, off, e1, hb, hc⟩ := Ents.at HEB.out.1 HB.out hlt
            have HBT := Lib.hid (blw_takeB l p.data.toList n hlt)
            have HRT := Lib.hid (rst_take l p.data.toList n hlt)
            have HAT := Lib.hid (blw_at l p.data.toList n hlt)
            obtain ⟨x, hx⟩ : ∃ x, l[n] = x := ⟨_, rfl⟩
            rw [hx] at hc HBT HRT HAT
            have HXK := Lib.hid hx
            clear hx hb
            cases e1
            have c0 := hc.c0
            have c1 := hc.c1
            have c2 := hc.c2
            clear hc
            have ways : (und (pl x) p.data.toList = true ∧ ∃ b2 off2, a2 = some ⟨b2, off2, none⟩ ∧ EnCells wr b2 (off2 + m * 3) x ∧ decide (m < (blw l p.data.toList).length) = true ∧ (m : Int) < ((blw l p.data.toList).length : Int)) ∨ (und (pl x) p.data.toList = false ∧ ((decide (m < (blw l p.data.toList).length) = false) ∨ ∃ y b2 off2, a2 = some ⟨b2, off2, none⟩ ∧ EnCells wr b2 (off2 + m * 3) y ∧ decide (m < (blw l p.data.toList).length) = true ∧ (m : Int) < ((blw l p.data.toList).length : Int) ∧ decide (y = x) = false)) := by
              cases hu : und (pl x) p.data.toList with
              | true =>
                have h1 := HAT.out hu
                rw [← HM.out] at h1
                obtain ⟨h2, h3⟩ := List.getElem?_eq_some_iff.1 h1
                obtain ⟨b2, off2, e2, _, hc2⟩ := Ents.at HEB.out.2 HB.out h2
                rw [h3] at hc2
                exact .inl ⟨rfl, b2, off2, e2, hc2, decide_eq_true h2, by omega⟩
              | false =>
                refine .inr ⟨rfl, ?_⟩
                by_cases h2 : m < (blw l p.data.toList).length
                · obtain ⟨b2, off2, e2, _, hc2⟩ := Ents.at HEB.out.2 HB.out h2
                  refine .inr ⟨_, b2, off2, e2, hc2, decide_eq_true h2, by omega, decide_eq_false fun e => ?_⟩
                  have h3 := blw_mem (List.getElem_mem h2)
                  rw [e, hu] at h3
                  cases h3
                · exact .inl (decide_eq_false h2)
            rcases ways with ⟨hu, b2, off2, e2, hc2, d1, d2⟩ | ⟨hu, ways⟩
            · cases e2
              have g0 := hc2.c0
              have g1 := hc2.c1
              have g2 := hc2.c2
              have hxx : decide (x = x) = true := decide_eq_true rfl
              have HN1 := Lib.hid (show m + 1 = (blw (l.take (n + 1)) p.data.toList).length by rw [HBT.out, if_pos hu, List.length_append, ← HM.out]; rfl)
              have HN2 := Lib.hid (show rst (l.take (n + 1)) p.data.toList = rst (l.take n) p.data.toList by rw [HRT.out, if_neg (by simp [hu]), List.append_nil])
              clear hc2 hu
              go_wp2_with fail
              refine wp_region_old (by kernel_rfl) (by kernel_rfl) ?_
              repeat (go_big_quiet_step (fail))
              refine wpQuiet_nil ?_
              intro w5 hb
              have HB5 := Lib.hid (show Below w3.heap.size w3 w5 from HB.out.trans (Below.mono hb HB.out.size))
              have HO5 := Lib.hid (HO.out.below hb)
              clear hb
              go_wp2
              go_roundg (gk - 1)
              case measure => omega
              case rel => exact ⟨n + 1, m + 1, by simp, by simp, by omega, HN1.out, by rw [HN2.out]; exact HO5.out, HB5.out⟩
            · have HN1 := Lib.hid (show m = (blw (l.take (n + 1)) p.data.toList).length by rw [HBT.out, if_neg (by simp [hu]), List.append_nil, ← HM.out])
              have hq : (x.1.toList == p.toList) = true ∧ rst (l.take (n + 1)) p.data.toList = rst (l.take n) p.data.toList ∨ (x.1.toList == p.toList) = false ∧ rst (l.take (n + 1)) p.data.toList = rst (l.take n) p.data.toList ++ [x] := by
                rw [HRT.out, Lib.toList_data, Lib.toList_data]
                by_cases hxp : pl x = p.data.toList
                · exact .inl ⟨beq_iff_eq.2 hxp, by rw [if_neg (by simp [hxp]), List.append_nil]⟩
                · exact .inr ⟨beq_eq_false_iff_ne.2 hxp, by rw [if_pos (by simp [hxp, hu])]⟩
              clear hu
              rcases ways with d1 | ⟨y, b2, off2, e2, hc2, d1, d2, dy⟩
              · rcases hq with ⟨gq, hN2⟩ | ⟨gq, hN2⟩
                · have HN2 := Lib.hid hN2
                  clear hN2
                  go_wp2_with fail
                  refine wp_region_old (by kernel_rfl) (by kernel_rfl) ?_
                  repeat (go_big_quiet_step (fail))
                  refine wpQuiet_nil ?_
                  intro w5 hb
                  have HB5 := Lib.hid (show Below w3.heap.size w3 w5 from HB.out.trans (Below.mono hb HB.out.size))
                  have HO5 := Lib.hid (HO.out.below hb)
                  obtain ⟨b9, off9, e9, hb9, hc⟩ := Ents.at HEB.out.1 HB5.out hlt
                  rw [HXK.out] at hc
                  cases e9
                  clear c0 c1 c2
                  have c0 := hc.c0
                  have c1 := hc.c1
                  have c2 := hc.c2
                  clear hb hc hb9
                  go_wp2
                  go_roundg (gk - 1)
                  case measure => omega
                  case rel => exact ⟨n + 1, m, rfl, by simp, by omega, HN1.out, by rw [HN2.out]; exact HO5.out, HB5.out⟩
                · have HN2 := Lib.hid hN2
                  clear hN2
                  go_wp2_with fail
                  refine wp_region_old (by kernel_rfl) (by kernel_rfl) ?_
                  repeat (go_big_quiet_step (fail))
                  refine wpQuiet_nil ?_
                  intro w5 hb
                  have HB5 := Lib.hid (show Below w3.heap.size w3 w5 from HB.out.trans (Below.mono hb HB.out.size))
                  have HO5 := Lib.hid (HO.out.below hb)
                  obtain ⟨b9, off9, e9, hb9, hc⟩ := Ents.at HEB.out.1 HB5.out hlt
                  rw [HXK.out] at hc
                  cases e9
                  clear c0 c1 c2
                  have c0 := hc.c0
                  have c1 := hc.c1
                  have c2 := hc.c2
                  clear hb hc hb9
                  go_wp2_with (at_builtin; refine Stopped.go ?_)
                  unfold Stopped
                  refine wl_putE (by rfl) _ _ (by rfl) w3.heap.size u6 _ x (by rfl) (HO5.out.below ((Below.refl _ _).alloc (Nat.le_refl _) _)) (by have := HB5.out.size; simp; omega) w5.heap.size (by rfl) (enAt_new w5 x.1 x.2.1 x.2.2) (by have := HML.out.2; omega) ?_
                  intro v6 w6 ho hg
                  have HB6 := Lib.hid ((HB5.out.alloc HB5.out.size (.cells #[.string x.1, .int .i64 x.2.1, .string x.2.2] 38)).grown hg (by have := HB5.out.size; simp; omega) (fun k hk => (ownE_blk HO5.out k hk).1))
                  have HO6 := Lib.hid ho
                  clear ho hg
                  go_wp2
                  go_roundg (gk - 1)
                  case measure => omega
                  case rel => exact ⟨n + 1, m, rfl, by simp, by omega, HN1.out, by rw [HN2.out]; exact HO6.out, HB6.out⟩
              · cases e2
                have g0 := hc2.c0
                have g1 := hc2.c1
                have g2 := hc2.c2
                clear hc2
                rcases hq with ⟨gq, hN2⟩ | ⟨gq, hN2⟩
                · have HN2 := Lib.hid hN2
                  clear hN2
                  go_wp2_with fail
                  refine wp_region_old (by kernel_rfl) (by kernel_rfl) ?_
                  repeat (go_big_quiet_step (fail))
                  refine wpQuiet_nil ?_
                  intro w5 hb
                  have HB5 := Lib.hid (show Below w3.heap.size w3 w5 from HB.out.trans (Below.mono hb HB.out.size))
                  have HO5 := Lib.hid (HO.out.below hb)
                  obtain ⟨b9, off9, e9, hb9, hc⟩ := Ents.at HEB.out.1 HB5.out hlt
                  rw [HXK.out] at hc
                  cases e9
                  clear c0 c1 c2
                  have c0 := hc.c0
                  have c1 := hc.c1
                  have c2 := hc.c2
                  clear hb hc hb9
                  go_wp2
                  go_roundg (gk - 1)
                  case measure => omega
                  case rel => exact ⟨n + 1, m, rfl, by simp, by omega, HN1.out, by rw [HN2.out]; exact HO5.out, HB5.out⟩
                · have HN2 := Lib.hid hN2
                  clear hN2
                  go_wp2_with fail
                  refine wp_region_old (by kernel_rfl) (by kernel_rfl) ?_
                  repeat (go_big_quiet_step (fail))
                  refine wpQuiet_nil ?_
                  intro w5 hb
                  have HB5 := Lib.hid (show Below w3.heap.size w3 w5 from HB.out.trans (Below.mono hb HB.out.size))
                  have HO5 := Lib.hid (HO.out.below hb)
                  obtain ⟨b9, off9, e9, hb9, hc⟩ := Ents.at HEB.out.1 HB5.out hlt
                  rw [HXK.out] at hc
                  cases e9
                  clear c0 c1 c2
                  have c0 := hc.c0
                  have c1 := hc.c1
                  have c2 := hc.c2
                  clear hb hc hb9
                  go_wp2_with (at_builtin; refine Stopped.go ?_)
                  unfold Stopped
                  refine wl_putE (by rfl) _ _ (by rfl) w3.heap.size u6 _ x (by rfl) (HO5.out.below ((Below.refl _ _).alloc (Nat.le_refl _) _)) (by have := HB5.out.size; simp; omega) w5.heap.size (by rfl) (enAt_new w5 x.1 x.2.1 x.2.2) (by have := HML.out.2; omega) ?_
                  intro v6 w6 ho hg
                  have HB6 := Lib.hid ((HB5.out.alloc HB5.out.size (.cells #[.string x.1, .int .i64 x.2.1, .string x.2.2] 38)).grown hg (by have := HB5.out.size; simp; omega) (fun k hk => (ownE_blk HO5.out k hk).1))
                  have HO6 := Lib.hid ho
                  clear ho hg
                  go_wp2
                  go_roundg (gk - 1)
                  case measure => omega
                  case rel => exact ⟨n + 1, m, rfl, by simp, by omega, HN1.out, by rw [HN2.out]; exact HO6.out, HB6.out⟩
          · have hlt' : ¬ (n : Int) < (l.length : Int) := by omega
            have HM2 := Lib.hid (show m = (blw l p.data.toList).length by rw [HM.out, List.take_of_length_le (by omega)])
            have hmm : ((m : Int) == ((blw l p.data.toList).length : Int)) = true := by rw [HM2.out]; simp
            have HO2 := Lib.hid (show OwnE wr w3.heap.size u6 (rst l p.data.toList) by have := HO.out; rw [List.take_of_length_le (by omega)] at this; exact this)
            obtain ⟨ar, cr, hu6, her⟩ := ents_of_own HO2.out
            subst hu6
            have HER := Lib.hid her
            have HRR := Lib.hid (show RightL (rst l p.data.toList) from ⟨Nat.le_trans (len_rst _ _) HR.out.1, rl_rst HR.out.2 _⟩)
            have HS4 := Lib.hid (HS3.out.next HB.out)
            clear her
            go_wp2_with fail
            refine (L.right _ ar cr _ HS4.out.et HER.out (sm_right HRR.out)).mono ?_
            rintro e w5 ⟨rfl, hb⟩
            have HS5 := Lib.hid (HS4.out.next hb)
            rw [decide_eq_true HRR.out]
            clear hb
            go_wp2
            go_ret
            exact ⟨by first | rfl | simp, HS5.out.below⟩
    · have hr1 : decide (RightL l) = false := decide_eq_false hr
      clear hr
      go_enter Tryd.func8, Tryd.ntmps8
      go_wp2_with fail
      refine (awake9 L _ HS0.out.et).mono ?_
      rintro e w1 ⟨rfl, hb⟩
      have HS1 := Lib.hid (HS0.out.next hb)
      replace HE := Lib.hid (HE.out.below hb)
      clear hb
      go_wp2_with fail
      refine (size9 l a cap _ HE.out).mono ?_
      rintro e w9 ⟨rfl, rfl⟩
      rw [hZ1]
      go_wp2_with fail
      refine (L.right l a cap _ HS1.out.et HE.out HSm.out).mono ?_
      rintro e w2 ⟨rfl, hb⟩
      have HS2 := Lib.hid (HS1.out.next hb)
      replace HE := Lib.hid (HE.out.below hb)
      clear hb
      rw [hr1]
      go_wp2_with fail
      refine (awake9 L _ HS2.out.et).mono ?_
      rintro e w3 ⟨rfl, hb⟩
      have HS3 := Lib.hid (HS2.out.next hb)
      clear hb
      go_wp2
      go_ret
      exact ⟨by first | rfl | simp, HS3.out.below⟩
  · have hZ1 : (if SizeOK l then (1 : Int) else 0) = 0 := if_neg hz
    clear hz
    go_enter Tryd.func8, Tryd.ntmps8
    go_wp2_with fail
    refine (awake9 L _ HS0.out.et).mono ?_
    rintro e w1 ⟨rfl, hb⟩
    have HS1 := Lib.hid (HS0.out.next hb)
    replace HE := Lib.hid (HE.out.below hb)
    clear hb
    go_wp2_with fail
    refine (size9 l a cap _ HE.out).mono ?_
    rintro e w9 ⟨rfl, rfl⟩
    rw [hZ1]
    go_wp2_with fail
    refine (awake9 L _ HS1.out.et).mono ?_
    rintro e w2 ⟨rfl, hb⟩
    have HS2 := Lib.hid (HS1.out.next hb)
    clear hb
    go_wp2
    go_ret
    exact ⟨by first | rfl | simp, HS2.out.below⟩
end Go.Proofs.YtflomllfehoedaaDoor
