/-
  The landed package edit keeps its contracts: do14c : Do14, on14l : On14, write14c : Write14 (the landed code's tree.Write). Conditions: as there.
-/
import Derived.Test.YtjliagcalbdnhaaGreatDoorPi
import Derived.Test.YtjliagcalbdnhaaGreatDoorPe
import Derived.Test.YtjliagcalbdnhaaGreatDoorPk
import Derived.Test.YtjliagcalbdnhaaGreatDoorPl
import Derived.Test.YtjliagcalbdnhaaGreatDoorPg
namespace Go.Proofs.YtjliagcalbdnhaaGreatDoor
open Go.RowKit

theorem on14l : On14 := on14c tree11
theorem root_shows14 (T : List (List Ent)) : decide ((lkV T [47]).1 = 0) = decide (OK14 T) := by
  by_cases h : OK14 T
  · rw [lkV_ok h, atS_root, decide_eq_true h]
    rfl
  · rw [lkV_bad h, decide_eq_false h]
    rfl
set_option maxRecDepth 10000 in
set_option maxHeartbeats 8000000 in
theorem do14c : Do14 := fun S a cap u a2 cap2 o w hg h hu hS hs hsu hf hk => by
  obtain ⟨r, hr⟩ : ∃ r, edV S u o = r := ⟨_, rfl⟩
  have HR := Lib.hid hr
  unfold edV at HR
  rw [hr]
  obtain ⟨W, hW⟩ : ∃ W, w.alloc (.cells #[.int .i64 o.1, .string o.2.1, .string o.2.2.1, .int .i64 o.2.2.2.1, .string o.2.2.2.2] 37) = W := ⟨_, rfl⟩
  obtain ⟨N, hN⟩ : ∃ N, w.heap.size = N := ⟨_, rfl⟩
  have hb : Below w.heap.size w W := by rw [← hW]; exact (Below.refl _ _).alloc (Nat.le_refl _) _
  have hE : EOp W N o := by rw [← hW, ← hN]; exact eop_new _ _
  obtain ⟨c0, c1, c2, c3, c4⟩ := hE.cells
  have HEO := Lib.hid hE
  have HB := Lib.hid hb
  have HC := Lib.hid (right14e o W hk)
  have HG := Lib.hid (hg.below hg.lt hb)
  have HST := Lib.hid (h.below hb)
  have HU := Lib.hid (RowN.below hu hb)
  have HS := Lib.hid hS
  have HSA := Lib.hid (show ∀ l ∈ S ++ [u], Sm l from fun l hl => by
    rcases List.mem_append.1 hl with hl | hl
    · exact hs l hl
    · rw [List.mem_singleton.1 hl]; exact hsu)
  have HF := Lib.hid hf
  have HK := Lib.hid hk
  by_cases hro : rOp o
  · rw [decide_eq_true hro] at HC
    rw [if_neg (not_not_intro hro)] at HR
    have HRO := Lib.hid hro
    clear hr hb hE hg h hu hS hs hsu hf hk hro
    go_enter Tryz.func13, Tryz.ntmps13
    go_wp2_with fail
    refine (HC.out).mono ?_
    rintro e w1 ⟨rfl, hb1⟩
    have HB1 := Lib.hid (HB.out.trans (hb1.mono HB.out.size))
    have HEO1 := Lib.hid (HEO.out.below hb1)
    have HG1 := Lib.hid (HG.out.below HG.out.lt hb1)
    have HST1 := Lib.hid (HST.out.below hb1)
    have HU1 := Lib.hid (RowN.below HU.out hb1)
    have HOV := Lib.hid (over14 S u a a2 cap cap2 w1 HST1.out HU1.out HS.out)
    obtain ⟨m, hm⟩ : ∃ m, (S ++ [u]).length = m := ⟨_, rfl⟩
    rw [hm] at HOV
    have HM := Lib.hid hm
    clear hb1 c0 c1 c2 c3 c4 hm
    go_wp2_with fail
    refine (HOV.out).mono ?_
    rintro e w2 ⟨a3, cap3, rfl, hk3, hb2⟩
    have HB2 := Lib.hid (HB1.out.trans (hb2.mono HB1.out.size))
    have HEO2 := Lib.hid (HEO1.out.below hb2)
    have HG2 := Lib.hid (HG1.out.below HG1.out.lt hb2)
    have HST2 := Lib.hid (HST1.out.below hb2)
    have HU2 := Lib.hid (RowN.below HU1.out hb2)
    have HSK2 := Lib.hid hk3
    clear hb2 hk3
    by_cases h100 : (S ++ [u]).length ≤ 100
    · have HSH := Lib.hid (shows12 (S ++ [u]) a3 cap3 ⟨#[47]⟩ w2 HG2.out HSK2.out h100 HSA.out (by decide))
      rw [HM.out] at HSH
      rw [show (⟨#[47]⟩ : ByteArray).data.toList = [47] from rfl, root_shows14] at HSH
      have HH := Lib.hid h100
      clear h100
      by_cases hok : OK14 (S ++ [u])
      · rw [decide_eq_true hok] at HSH
        rw [if_neg (not_not_intro hok)] at HR
        obtain ⟨hT, hU, hsk, hl⟩ := ok_low hok
        rw [hsk] at HR
        have HOK := Lib.hid hok
        obtain ⟨t, ht⟩ : ∃ t, over (stk S) u = t := ⟨_, rfl⟩
        have HTL := Lib.hid (show TreeL t by rw [← ht]; exact ⟨by omega, tr_over hT hU.2⟩)
        have HTN := Lib.hid (show t.length ≤ 900 by rw [← ht]; omega)
        have HWV := Lib.hid (show wkV (S ++ [u]) = t by rw [← ht, ← hsk]; exact if_pos hok)
        rw [ht] at HR
        have HTT := Lib.hid ht
        clear hok hT hU hsk hl ht
        go_wp2_with fail
        refine (HSH.out).mono ?_
        rintro e w3 ⟨rfl, hb3⟩
        have HB3 := Lib.hid (HB2.out.trans (hb3.mono HB2.out.size))
        have HEO3 := Lib.hid (HEO2.out.below hb3)
        have HG3 := Lib.hid (HG2.out.below HG2.out.lt hb3)
        have HST3 := Lib.hid (HST2.out.below hb3)
        have HU3 := Lib.hid (RowN.below HU2.out hb3)
        have HSK3 := Lib.hid (HSK2.out.below hb3)
        clear hb3
        obtain ⟨c0, c1, c2, c3, c4⟩ := HEO3.out.cells
        have HKS : Hid (∀ X, Below w3.heap.size w3 X → X.cell? ⟨N, 0, none⟩ = some (.int .i64 o.1) ∧ X.cell? ⟨N, 1, none⟩ = some (.string o.2.1) ∧ X.cell? ⟨N, 2, none⟩ = some (.string o.2.2.1) ∧ X.cell? ⟨N, 3, none⟩ = some (.int .i64 o.2.2.2.1) ∧ X.cell? ⟨N, 4, none⟩ = some (.string o.2.2.2.2)) := fun X hX => (HEO3.out.below hX).cells
        have HWK : Hid (∀ X, Below w3.heap.size w3 X → Calls Tryz.prog 32 #[.slice a3 m cap3] X fun e w' => ∃ a' cap', e = .returned (.slice a' t.length cap') ∧ Ents w' a' cap' t ∧ Below w3.heap.size w3 w') := fun X hX => by
          have := walk13c (S ++ [u]) a3 cap3 X (HG3.out.below HG3.out.lt hX) (HSK3.out.below hX) HH.out HSA.out
          rw [HWV.out, HM.out] at this
          refine this.mono ?_
          rintro e w' ⟨a', cap', rfl, he, hb⟩
          exact ⟨a', cap', rfl, he, hX.trans (hb.mono hX.size)⟩
        obtain ⟨x, hx⟩ : ∃ x, doV t o = x := ⟨_, rfl⟩
        have HX := Lib.hid hx
        rw [hx] at HR
        have HON : Hid (∀ X a' cap', Ents X a' cap' t → Below w3.heap.size w3 X → Calls Tryz.prog 15 #[.slice a' t.length cap', .agg #[.int .i64 o.1, .string o.2.1, .string o.2.2.1, .int .i64 o.2.2.2.1, .string o.2.2.2.2]] X fun e w' => ∃ a' cap' er, e = .returned (.tuple #[.slice a' x.2.length cap', er]) ∧ Ents w' a' cap' x.2 ∧ Er w' x.1 er ∧ Below w3.heap.size w3 w') := fun X a' cap' he hX => by
          have := on14l t a' cap' o X (HG3.out.below HG3.out.lt hX) he HTL.out HTN.out HF.out HK.out
          rw [show onV t o = x by unfold onV; rw [if_pos HRO.out, HX.out]] at this
          refine this.mono ?_
          rintro e w' ⟨a', cap', er, rfl, h1, h2, hb⟩
          exact ⟨a', cap', er, rfl, h1, h2, hX.trans (hb.mono hX.size)⟩
        clear hx
        go_wp2_with fail
        go_region_held3 (fun X => X.cell? ⟨N, 0, none⟩ = some (.int .i64 o.1) ∧ X.cell? ⟨N, 1, none⟩ = some (.string o.2.1) ∧ X.cell? ⟨N, 2, none⟩ = some (.string o.2.2.1) ∧ X.cell? ⟨N, 3, none⟩ = some (.int .i64 o.2.2.2.1) ∧ X.cell? ⟨N, 4, none⟩ = some (.string o.2.2.2.2))
          ((with_reducible refine HKS.out _ ?_; (first | with_reducible assumption | with_reducible exact Below.refl _ _ | with_reducible exact (Below.refl _ _).drew | (with_reducible refine Below.drew ?_; with_reducible assumption))))
          (first
            | (go_at_call 32; with_reducible refine (HWK.out _ ?_).mono ?_; (focus ((first | with_reducible assumption | with_reducible exact Below.refl _ _ | with_reducible exact (Below.refl _ _).drew | (with_reducible refine Below.drew ?_; with_reducible assumption)))); rintro e w4 ⟨a4, cap4, rfl, he4, hB4⟩; have he5 := RowN.below he4 ((Below.refl _ _).drew))
            | (go_at_call 15; with_reducible refine (HON.out _ _ _ ?_ ?_).mono ?_; (focus (with_reducible assumption)); (focus ((first | with_reducible assumption | (with_reducible refine Below.drew ?_; with_reducible assumption)))); rintro e w5 ⟨a5, cap5, er5, rfl, he6, her5, hB5⟩))
        all_goals
          have HB5 := Lib.hid (HB3.out.trans (hB5.mono HB3.out.size))
          have HEO5 := Lib.hid (HEO3.out.below hB5)
          have HG5 := Lib.hid (HG3.out.below HG3.out.lt hB5)
          have HST5 := Lib.hid (HST3.out.below hB5)
          have HU5 := Lib.hid (RowN.below HU3.out hB5)
          have HE5 := Lib.hid he6
          have HER5 := Lib.hid her5
          clear c0 c1 c2 c3 c4 he4 he5 hB4 he6 hB5
          rcases her5 with ⟨h0, rfl⟩ | ⟨h0, herr⟩
          · obtain ⟨c0, c1, c2, c3, c4⟩ := HEO5.out.cells
            have HFO := Lib.hid (followed14 read11 S u x.2 a a2 a5 cap cap2 cap5 o w5 HG5.out HST5.out HU5.out HE5.out HOK.out HF.out HRO.out (by rw [HTT.out, HX.out]; exact h0) (by rw [HTT.out, HX.out]))
            rw [if_neg (not_not_intro h0)] at HR
            have HV := Lib.hid (show ans14 (up14 (stk S) u o) = r from HR.out)
            rw [HV.out] at HFO
            clear h0
            go_wp2_with fail
            refine (HFO.out).mono ?_
            rintro e w6 ⟨a6, cap6, er6, rfl, h6, her6, hb6⟩
            have HB6 := Lib.hid (HB5.out.trans (hb6.mono HB5.out.size))
            have HEO6 := Lib.hid (HEO5.out.below hb6)
            have H6 := Lib.hid h6
            have HAT := Lib.hid (at_er ⟨#[100, 111]⟩ o.2.1 r.1 er6 w6 her6)
            clear c0 c1 c2 c3 c4 h6 her6 hb6
            obtain ⟨c0, c1, c2, c3, c4⟩ := HEO6.out.cells
            go_wp2_with fail
            refine (HAT.out).mono ?_
            rintro e w7 ⟨er7, rfl, her7, hb7⟩
            have HB7 := Lib.hid (HB6.out.trans (hb7.mono HB6.out.size))
            have H7 := Lib.hid (RowN.below H6.out hb7)
            have HER7 := Lib.hid her7
            clear c0 c1 c2 c3 c4 her7 hb7
            go_wp2
            go_ret2
            exact ⟨a6, cap6, er7, rfl, H7.out, HER7.out, by first | exact HB7.out | (rw [hN]; exact HB7.out) | (rw [← hN]; exact HB7.out)⟩
          · rw [if_pos h0] at HR
            have HV := Lib.hid (show r = (x.1, []) from HR.out.symm)
            obtain ⟨uu, yy, rfl⟩ := herr.iface
            clear h0 herr
            go_wp2
            go_ret2
            exact ⟨none, 0, _, by rw [HV.out]; rfl, by rw [HV.out]; exact ents_nil _ _ _, by rw [HV.out]; exact HER5.out, by first | exact HB5.out | (rw [hN]; exact HB5.out) | (rw [← hN]; exact HB5.out)⟩
      · rw [decide_eq_false hok] at HSH
        rw [if_pos hok] at HR
        have HV := Lib.hid (show r = (16, []) from HR.out.symm)
        clear hok
        go_wp2_with fail
        refine (HSH.out).mono ?_
        rintro e w3 ⟨rfl, hb3⟩
        have HB3 := Lib.hid (HB2.out.trans (hb3.mono HB2.out.size))
        clear hb3
        go_wp2
        go_ret2
        exact ⟨none, 0, .iface 61 (.int .i64 16), by rw [HV.out]; rfl, by rw [HV.out]; exact ents_nil _ _ _, by rw [HV.out]; exact er_no11 _ _ (by decide), by first | exact HB3.out | (rw [hN]; exact HB3.out) | (rw [← hN]; exact HB3.out)⟩
    · have hok : ¬ OK14 (S ++ [u]) := fun h9 => h100 (by have := h9.1; omega)
      rw [if_pos hok] at HR
      have HV := Lib.hid (show r = (16, []) from HR.out.symm)
      have HSH := Lib.hid (shows_long14 m a3 cap3 ⟨#[47]⟩ w2 (by have := HM.out; omega))
      clear h100 hok
      go_wp2_with fail
      refine (HSH.out).mono ?_
      rintro e w3 ⟨rfl, hb3⟩
      have HB3 := Lib.hid (HB2.out.trans (hb3.mono HB2.out.size))
      clear hb3
      go_wp2
      go_ret2
      exact ⟨none, 0, .iface 61 (.int .i64 16), by rw [HV.out]; rfl, by rw [HV.out]; exact ents_nil _ _ _, by rw [HV.out]; exact er_no11 _ _ (by decide), by first | exact HB3.out | (rw [hN]; exact HB3.out) | (rw [← hN]; exact HB3.out)⟩
  · rw [decide_eq_false hro] at HC
    rw [if_pos hro] at HR
    have HV := Lib.hid (show r = (1, []) from HR.out.symm)
    clear hr hb hE hg h hu hS hs hsu hf hk hro
    go_enter Tryz.func13, Tryz.ntmps13
    go_wp2_with fail
    refine (HC.out).mono ?_
    rintro e w1 ⟨rfl, hb1⟩
    have HB1 := Lib.hid (HB.out.trans (hb1.mono HB.out.size))
    clear hb1 c0 c1 c2 c3 c4
    go_wp2
    go_ret2
    exact ⟨none, 0, .iface 61 (.int .i64 1), by rw [HV.out]; rfl, by rw [HV.out]; exact ents_nil _ _ _, by rw [HV.out]; exact er_no11 _ _ (by decide), by first | exact HB1.out | (rw [hN]; exact HB1.out) | (rw [← hN]; exact HB1.out)⟩
end Go.Proofs.YtjliagcalbdnhaaGreatDoor
