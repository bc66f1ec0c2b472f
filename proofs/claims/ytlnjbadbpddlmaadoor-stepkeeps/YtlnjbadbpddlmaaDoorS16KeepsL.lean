/-
  The law StepKeeps walked over Step16, Two15, Right15: for every two layers it returns true and changes nothing that was there. Conditions: packages step, merge and layer answer as these say; the layers lie in memory; errorType holds error's type.
-/
import Derived.Test.YtlnjbadbpddlmaaDoorPo
import Derived.Test.YtlnjbadbpddlmaaDoorPd
import Derived.Test.YtlnjbadbpddlmaaDoorPc
import Derived.IntWalk
import Derived.Deep.LoopGhost
import Derived.Test.YtlnjbadbpddlmaaDoorPm
namespace Go.Proofs.YtlnjbadbpddlmaaDoor
open Go.RowKit

abbrev zE16 : Ent := (⟨#[]⟩, 0, ⟨#[]⟩)
set_option maxRecDepth 10000 in
set_option maxHeartbeats 16000000 in
theorem lawKeeps16 {M : World → Nat → (Nat → Prop) → List Ent → List Ent → Bool → Nat → Prop} (L : Step16 M) (L2 : Two15) (LR : Right15) (lo hi : List Ent) (a : Option Addr) (ca : Nat) (b : Option Addr) (cb : Nat) (bt : Bool) (W : World) (hg : EtLaid W) (ha : Ents W a ca lo) (hb0 : Ents W b cb hi) :
    Calls Tryd.prog 6 #[.slice a lo.length ca, .slice b hi.length cb, .bool bt] W fun e w' => e = .returned (.bool true) ∧ Below W.heap.size W w' := by
  have HS0 := Lib.hid (st_self hg)
  have HG := Lib.hid hg
  have HA := Lib.hid ha
  have HB := Lib.hid hb0
  have HA0 := Lib.hid ha
  have HB0 := Lib.hid hb0
  clear hg ha hb0
  by_cases hf1 : SizeOK lo
  · have hF1 : (if SizeOK lo then (1 : Int) else 0) = 1 := if_pos hf1
    by_cases hf2 : SizeOK hi
    · have hF2 : (if SizeOK hi then (1 : Int) else 0) = 1 := if_pos hf2
      have HSMA := Lib.hid (sm_size hf1)
      have HSMB := Lib.hid (sm_size hf2)
      clear hf1 hf2
      by_cases hr1 : RightL lo
      · have hR1 := decide_eq_true hr1
        have HR1 := Lib.hid hr1
        clear hr1
        by_cases hr2 : RightL hi
        · have hR2 := decide_eq_true hr2
          have HR2 := Lib.hid hr2
          clear hr2
          obtain ⟨n0, X, htw⟩ : ∃ n X, twV lo hi bt = (n, X) := ⟨_, _, rfl⟩
          have HXL := Lib.hid (show X.length ≤ maxLen by
            rcases tw_cases lo hi bt with ⟨_, h9⟩ | ⟨_, _, _, h9⟩ | ⟨_, _, h8, h9⟩
            · rw [htw] at h9; cases h9; simp [maxLen]
            · rw [htw] at h9; cases h9; simp [maxLen]
            · rw [htw] at h9; cases h9; unfold maxLen; omega)
          have HLY : Hid (∀ w q F, EtLaid w → Mg M W w q F lo hi bt hi.length → Calls Tryd.prog 16 #[.pointer (some ⟨q, 0, none⟩)] w fun e w' => ∃ a' c' er, e = .returned (.tuple #[.slice a' X.length c', er]) ∧ Ents w' a' c' X ∧ Er w' n0 er ∧ Below w.heap.size w w') := fun w q F h1 h2 => by
            have := L.layer q F lo hi bt hi.length w h1 h2.at_
            rwa [lyV_ready, htw] at this
          have HTW : Hid (∀ w, St W w → Calls Tryd.prog 17 #[.slice a lo.length ca, .slice b hi.length cb, .bool bt] w fun e w' => ∃ a' c' er, e = .returned (.tuple #[.slice a' X.length c', er]) ∧ Ents w' a' c' X ∧ Er w' n0 er ∧ Below w.heap.size w w') := fun w h1 => by
            have := L2 lo a ca hi b cb bt w h1.et (RowN.below HA0.out h1.below) (RowN.below HB0.out h1.below) HSMA.out HSMB.out
            rwa [htw] at this
          clear htw
          have HL64 := Lib.hid (show hi.length ≤ 64 from HR2.out.1)
          have HI64 : (hi.length : Int) ≤ 64 := by have := HL64.out; omega
          obtain ⟨x1, hx1⟩ : ∃ x, min 1 (hi.length - 0) = x := ⟨_, rfl⟩
          have HX1 := Lib.hid (show min (1 : Int).toNat (hi.length - 0) = x1 from hx1)
          have HX2 := Lib.hid (show min (100 : Int).toNat (hi.length - x1) = hi.length - x1 by show min 100 (hi.length - x1) = hi.length - x1; have := HL64.out; omega)
          have HX3 := Lib.hid (show x1 + (hi.length - x1) = hi.length by omega)
          have HLO64 := Lib.hid (show lo.length ≤ 64 from HR1.out.1)
          clear hx1
          go_enter Tryd.func6, Tryd.ntmps6
          go_wp2_with fail
          refine (awake16 L _ HS0.out.et).mono ?_
          rintro e w1 ⟨rfl, hb⟩
          have HS1 := Lib.hid (HS0.out.next hb)
          replace HA := Lib.hid (RowN.below HA.out hb)
          replace HB := Lib.hid (RowN.below HB.out hb)
          clear hb
          go_wp2_with fail
          refine (size9 lo a ca _ HA.out).mono ?_
          rintro e w9 ⟨rfl, rfl⟩
          rw [hF1]
          go_wp2_with fail
          refine (size9 hi b cb _ HB.out).mono ?_
          rintro e w9 ⟨rfl, rfl⟩
          rw [hF2]
          go_wp2_with fail
          refine (LR lo a ca _ HS1.out.et HA.out HSMA.out).mono ?_
          rintro e w2 ⟨rfl, hb⟩
          rw [hR1]
          have HS2 := Lib.hid (HS1.out.next hb)
          replace HA := Lib.hid (RowN.below HA.out hb)
          replace HB := Lib.hid (RowN.below HB.out hb)
          clear hb
          go_wp2_with fail
          refine (LR hi b cb _ HS2.out.et HB.out HSMB.out).mono ?_
          rintro e w3 ⟨rfl, hb⟩
          rw [hR2]
          have HS3 := Lib.hid (HS2.out.next hb)
          replace HA := Lib.hid (RowN.below HA.out hb)
          replace HB := Lib.hid (RowN.below HB.out hb)
          clear hb
          go_wp2_with (at_builtin; refine Stopped.go ?_)
          unfold Stopped
          have hba : Below w3.heap.size w3 (w3.alloc (.cells #[] 45)) := (Below.refl _ _).alloc (Nat.le_refl _) _
          refine wl_catE (by rfl) _ _ (by rfl) w3.heap.size _ [] lo (by rfl) (ownsE_new w3 w3.heap.size w3.heap.size rfl (Nat.le_refl _) 45 3) hba.size a ca (by rfl) (RowN.below HA.out hba) (by have := HLO64.out; simp; omega) ?_
          intro v1 u1 ho1 hg1
          have HO1 := Lib.hid (show OwnE u1 w3.heap.size v1 lo from ho1)
          have HBK1 := Lib.hid (ownE_blk HO1.out)
          have HB1 := Lib.hid (hba.grown hg1 hba.size (fun k hk => by
            obtain rfl : w3.heap.size = k := by simpa [Value.ownBlock] using hk
            exact Nat.le_refl _))
          clear hba ho1 hg1
          go_wp2_with (at_builtin; refine Stopped.go ?_)
          unfold Stopped
          have hbb : Below u1.heap.size u1 (u1.alloc (.cells #[] 45)) := (Below.refl _ _).alloc (Nat.le_refl _) _
          refine wl_catE (by rfl) _ _ (by rfl) u1.heap.size _ [] hi (by rfl) (ownsE_new u1 u1.heap.size u1.heap.size rfl (Nat.le_refl _) 45 3) hbb.size b cb (by rfl) (RowN.below (RowN.below HB.out HB1.out) hbb) (by have := HL64.out; simp; omega) ?_
          intro v2 u2 ho2 hg2
          have HO2 := Lib.hid (show OwnE u2 u1.heap.size v2 hi from ho2)
          have HBK2 := Lib.hid (ownE_blk HO2.out)
          have HB2 := Lib.hid (hbb.grown hg2 hbb.size (fun k hk => by
            obtain rfl : u1.heap.size = k := by simpa [Value.ownBlock] using hk
            exact Nat.le_refl _))
          clear hbb ho2 hg2
          replace HO1 := Lib.hid (HO1.out.below HB2.out)
          have HSU := Lib.hid ((HS3.out.next HB1.out).next HB2.out)
          have HSZ := Lib.hid (show w3.heap.size ≤ u1.heap.size ∧ u1.heap.size ≤ u2.heap.size ∧ W.heap.size ≤ w3.heap.size from ⟨HB1.out.size, HB2.out.size, HS3.out.below.size⟩)
          obtain ⟨aA, cA, eA, hEA⟩ := ents_of_own HO1.out
          obtain ⟨aB, cB, eB, hEB⟩ := ents_of_own HO2.out
          subst eA eB
          have HEA := Lib.hid hEA
          have HEB := Lib.hid hEB
          have HQ0 := Lib.hid (st_self HSU.out.et)
          have HGU := Lib.hid HSU.out.et
          have HBEG := Lib.hid (beginMg L lo hi aA aB cA cB bt HQ0.out HEA.out HEB.out HR1.out HR2.out)
          clear hEA hEB HA HB
          go_wp2_with fail
          refine (HBEG.out).mono ?_
          rintro e v3 ⟨bM, F1, rfl, hm, -, hb⟩
          have HM1 := Lib.hid hm
          have HQ1 := Lib.hid (HQ0.out.next hb)
          clear hm hb HBEG
          go_wp2_with fail
          refine (stepMg L 1 x1 HGU.out HQ1.out HM1.out (by decide) HX1.out).mono ?_
          rintro e v4 ⟨F2, rfl, hm, hs, -, -⟩
          rw [Nat.zero_add] at hm
          have HM2 := Lib.hid hm
          have HQ2 := Lib.hid hs
          have HT2 := Lib.hid (show St W v4 from ⟨HSU.out.below.trans (HQ2.out.below.mono HSU.out.below.size), HQ2.out.et⟩)
          clear hm hs
          go_wp2_with fail
          refine (same9 lo lo _ _ _ _ _ (RowN.below HEA.out HQ2.out.below) (RowN.below HA0.out HT2.out.below) (by have := HLO64.out; unfold maxLen; omega)).mono ?_
          rintro e v5 ⟨rfl, hb⟩
          rw [if_pos rfl]
          have HQ3 := Lib.hid (HQ2.out.next hb)
          have HM3 := Lib.hid (HM2.out.next L hb)
          have HT3 := Lib.hid (HT2.out.next hb)
          clear hb
          go_wp2_with fail
          refine (same9 hi hi _ _ _ _ _ (RowN.below HEB.out HQ3.out.below) (RowN.below HB0.out HT3.out.below) (by have := HL64.out; unfold maxLen; omega)).mono ?_
          rintro e v6 ⟨rfl, hb⟩
          rw [if_pos rfl]
          have HQ4 := Lib.hid (HQ3.out.next hb)
          have HM4 := Lib.hid (HM3.out.next L hb)
          have HT4 := Lib.hid (HT3.out.next hb)
          clear hb
          have HFN := Lib.hid (show ∀ j, F2 j → u2.heap.size ≤ j from HM4.out.new)
          have HMW := Lib.hid (show Mg M W v6 bM F2 lo hi bt x1 from ⟨HM4.out.at_, fun j hj => Nat.le_trans HSU.out.below.size (HFN.out j hj)⟩)
          have HOA := Lib.hid (show v6.ownsRow w3.heap.size 45 3 (.slice aA lo.length cA) lo.length (lo.flatMap enc) from HO1.out.below HQ4.out.below)
          have HOB := Lib.hid (show v6.ownsRow u1.heap.size 45 3 (.slice aB hi.length cB) hi.length (hi.flatMap enc) from HO2.out.below HQ4.out.below)
          clear HM1 HM2 HM3 HM4 HQ0 HQ1 HQ2 HQ3 HQ4 HT2 HT3 HO1 HO2 HEA HEB HB1 HB2
          go_wp2
          go_loopg [11] lo.length (fun g i wx => ∃ (j : Nat) (N : List Ent), i = .int .i64 (j : Int) ∧ j + g = lo.length ∧ Hid (N.length = lo.length) ∧ Hid (wx.ownsRow w3.heap.size 45 3 (.slice aA lo.length cA) lo.length (N.flatMap enc)) ∧ Hid (wx.ownsRow u1.heap.size 45 3 (.slice aB hi.length cB) hi.length (hi.flatMap enc)) ∧ Hid (Mg M W wx bM F2 lo hi bt x1) ∧ Hid (St W wx))
          case atStart => exact ⟨0, lo, rfl, by omega, rfl, HOA.out, HOB.out, HMW.out, HT4.out⟩
          case round =>
            clear HOA HOB HMW HT4
            obtain ⟨j, N, rfl, hj, HNL, HO, HOB, HMW, HT4⟩ := hrel
            have hw : IntKind.i64.wrap ((j : Int) + 1) = (j : Int) + 1 := IntWalk.i64_in _ (by have := HL64.out; have := HLO64.out; omega)
            by_cases hlt : j < lo.length
            · have hlt' : (j : Int) < (lo.length : Int) := by omega
              obtain ⟨g, rfl⟩ := own_some14 HO.out (by omega)
              have HGB := Lib.hid (HBK1.out g rfl)
              obtain ⟨y, hy⟩ : ∃ y, N[j]? = some y := ⟨_, List.getElem?_eq_getElem (by have := HNL.out; omega)⟩
              have d0 := (own_cell14 HO.out hy hlt (i := 0) rfl).1
              have d1 := (own_cell14 HO.out hy hlt (i := 1) rfl).1
              have d2 := (own_cell14 HO.out hy hlt (i := 2) rfl).1
              have f0 := (own_cell14 HO.out hy hlt (i := 0) rfl).2
              have f1 := (own_cell14 HO.out hy hlt (i := 1) rfl).2
              have f2 := (own_cell14 HO.out hy hlt (i := 2) rfl).2
              rw [Nat.add_zero] at d0 f0
              have HJ := Lib.hid hlt
              clear hy
              go_wp2
              go_roundg (gk - 1)
              case measure => omega
              case rel =>
                refine ⟨j + 1, N.set j zE16, by simp, by omega, (show (N.set j zE16).length = lo.length by rw [List.length_set]; exact HNL.out), ?_, ?_, ?_, ?_⟩
                · rw [flat_set N (enc_len14 N) j zE16 (by have := HNL.out; have := HJ.out; omega) rfl]
                  exact owns_put HO.out (j * 3) (enc zE16) (by show j * 3 + 3 ≤ lo.length * 3; have := HJ.out; omega)
                · exact own_gen14 HOB.out fun k hk => cells_other14 (enc zE16) wr g (j * 3) k (by have h1 := HBK2.out k hk; have h2 := HGB.out; omega)
                · exact ⟨L.keep HMW.out.at_ fun k hk => cells_other14 (enc zE16) wr g (j * 3) k (by have h1 := HFN.out k hk; have h2 := HGB.out; have h3 := HSZ.out; omega), HMW.out.new⟩
                · have h9 := below_cells14 (enc zE16) wr g (j * 3) HT4.out.below (by have h2 := HGB.out; have h3 := HSZ.out; omega)
                  exact ⟨h9, HG.out.below HG.out.lt h9⟩
            · have hlt' : ¬ (j : Int) < (lo.length : Int) := by omega
              clear HO
              go_wp2
              go_loopg [12] hi.length (fun g i wx => ∃ (j : Nat) (N : List Ent), i = .int .i64 (j : Int) ∧ j + g = hi.length ∧ Hid (N.length = hi.length) ∧ Hid (wx.ownsRow u1.heap.size 45 3 (.slice aB hi.length cB) hi.length (N.flatMap enc)) ∧ Hid (Mg M W wx bM F2 lo hi bt x1) ∧ Hid (St W wx))
              case atStart => exact ⟨0, hi, rfl, by omega, rfl, HOB.out, HMW.out, HT4.out⟩
              case round =>
                clear HOB HMW HT4
                obtain ⟨j, N, rfl, hj, HNL, HO, HMW, HT4⟩ := hrel
                have hw : IntKind.i64.wrap ((j : Int) + 1) = (j : Int) + 1 := IntWalk.i64_in _ (by have := HL64.out; have := HLO64.out; omega)
                by_cases hlt : j < hi.length
                · have hlt' : (j : Int) < (hi.length : Int) := by omega
                  obtain ⟨g, rfl⟩ := own_some14 HO.out (by omega)
                  have HGB := Lib.hid (HBK2.out g rfl)
                  obtain ⟨y, hy⟩ : ∃ y, N[j]? = some y := ⟨_, List.getElem?_eq_getElem (by have := HNL.out; omega)⟩
                  have d0 := (own_cell14 HO.out hy hlt (i := 0) rfl).1
                  have d1 := (own_cell14 HO.out hy hlt (i := 1) rfl).1
                  have d2 := (own_cell14 HO.out hy hlt (i := 2) rfl).1
                  have f0 := (own_cell14 HO.out hy hlt (i := 0) rfl).2
                  have f1 := (own_cell14 HO.out hy hlt (i := 1) rfl).2
                  have f2 := (own_cell14 HO.out hy hlt (i := 2) rfl).2
                  rw [Nat.add_zero] at d0 f0
                  have HJ := Lib.hid hlt
                  clear hy
                  go_wp2
                  go_roundg (gk - 1)
                  case measure => omega
                  case rel =>
                    refine ⟨j + 1, N.set j zE16, by simp, by omega, (show (N.set j zE16).length = hi.length by rw [List.length_set]; exact HNL.out), ?_, ?_, ?_⟩
                    · rw [flat_set N (enc_len14 N) j zE16 (by have := HNL.out; have := HJ.out; omega) rfl]
                      exact owns_put HO.out (j * 3) (enc zE16) (by show j * 3 + 3 ≤ hi.length * 3; have := HJ.out; omega)
                    · exact ⟨L.keep HMW.out.at_ fun k hk => cells_other14 (enc zE16) wr g (j * 3) k (by have h1 := HFN.out k hk; have h2 := HGB.out; have h3 := HSZ.out; omega), HMW.out.new⟩
                    · have h9 := below_cells14 (enc zE16) wr g (j * 3) HT4.out.below (by have h2 := HGB.out; have h3 := HSZ.out; omega)
                      exact ⟨h9, HG.out.below HG.out.lt h9⟩
                · have hlt' : ¬ (j : Int) < (hi.length : Int) := by omega
                  clear HO
                  go_wp2_with fail
                  refine (stepMg L 100 (hi.length - x1) HG.out HT4.out HMW.out (by decide) HX2.out).mono ?_
                  rintro e w1 ⟨F3, rfl, hm, hs, -, -⟩
                  rw [HX3.out] at hm
                  replace HMW := Lib.hid hm
                  have HS1 := Lib.hid hs
                  clear hm hs
                  go_wp2_with fail
                  refine (HLY.out _ _ _ HS1.out.et HMW.out).mono ?_
                  rintro e w2 ⟨aX, cX, eX, rfl, h9, e9, hb⟩
                  have HX := Lib.hid h9
                  have HEX := Lib.hid e9
                  clear h9 e9
                  have HS2 := Lib.hid (HS1.out.next hb)
                  replace HMW := Lib.hid (HMW.out.next L hb)
                  clear hb
                  go_wp2_with fail
                  refine (HTW.out _ HS2.out).mono ?_
                  rintro e w3 ⟨aY, cY, eY, rfl, h9, e9, hb⟩
                  have HY := Lib.hid h9
                  have HEY := Lib.hid e9
                  clear h9 e9
                  have HS3 := Lib.hid (HS2.out.next hb)
                  replace HMW := Lib.hid (HMW.out.next L hb)
                  replace HX := Lib.hid (RowN.below HX.out hb)
                  replace HEX := Lib.hid (HEX.out.below hb)
                  clear hb
                  go_wp2_with fail
                  refine (code_er 0 .nilIface _ (er_nil _) HS3.out.et).mono ?_
                  rintro e w4 ⟨rfl, hb⟩
                  have HS4 := Lib.hid (HS3.out.next hb)
                  replace HMW := Lib.hid (HMW.out.next L hb)
                  replace HX := Lib.hid (RowN.below HX.out hb)
                  replace HEX := Lib.hid (HEX.out.below hb)
                  replace HY := Lib.hid (RowN.below HY.out hb)
                  replace HEY := Lib.hid (HEY.out.below hb)
                  clear hb
                  go_wp2_with fail
                  refine (code_er _ _ _ HEX.out HS4.out.et).mono ?_
                  rintro e w5 ⟨rfl, hb⟩
                  have HS5 := Lib.hid (HS4.out.next hb)
                  replace HMW := Lib.hid (HMW.out.next L hb)
                  replace HX := Lib.hid (RowN.below HX.out hb)
                  replace HEX := Lib.hid (HEX.out.below hb)
                  replace HY := Lib.hid (RowN.below HY.out hb)
                  replace HEY := Lib.hid (HEY.out.below hb)
                  clear hb
                  go_wp2_with fail
                  refine (code_er _ _ _ HEY.out HS5.out.et).mono ?_
                  rintro e w6 ⟨rfl, hb⟩
                  have HS6 := Lib.hid (HS5.out.next hb)
                  replace HMW := Lib.hid (HMW.out.next L hb)
                  replace HX := Lib.hid (RowN.below HX.out hb)
                  replace HEX := Lib.hid (HEX.out.below hb)
                  replace HY := Lib.hid (RowN.below HY.out hb)
                  replace HEY := Lib.hid (HEY.out.below hb)
                  clear hb
                  go_wp2_with fail
                  refine (same9 _ _ _ _ _ _ _ HX.out HY.out HXL.out).mono ?_
                  rintro e w7 ⟨rfl, hb⟩
                  rw [if_pos rfl]
                  have HS7 := Lib.hid (HS6.out.next hb)
                  replace HMW := Lib.hid (HMW.out.next L hb)
                  replace HX := Lib.hid (RowN.below HX.out hb)
                  replace HEX := Lib.hid (HEX.out.below hb)
                  replace HY := Lib.hid (RowN.below HY.out hb)
                  replace HEY := Lib.hid (HEY.out.below hb)
                  clear hb
                  go_wp2
                  go_ret
                  exact ⟨by first | rfl | simp, HS7.out.below⟩
        · have hR2 := decide_eq_false hr2
          clear hr2
          go_enter Tryd.func6, Tryd.ntmps6
          go_wp2_with fail
          refine (awake16 L _ HS0.out.et).mono ?_
          rintro e w1 ⟨rfl, hb⟩
          have HS1 := Lib.hid (HS0.out.next hb)
          replace HA := Lib.hid (RowN.below HA.out hb)
          replace HB := Lib.hid (RowN.below HB.out hb)
          clear hb
          go_wp2_with fail
          refine (size9 lo a ca _ HA.out).mono ?_
          rintro e w9 ⟨rfl, rfl⟩
          rw [hF1]
          go_wp2_with fail
          refine (size9 hi b cb _ HB.out).mono ?_
          rintro e w9 ⟨rfl, rfl⟩
          rw [hF2]
          go_wp2_with fail
          refine (LR lo a ca _ HS1.out.et HA.out HSMA.out).mono ?_
          rintro e w2 ⟨rfl, hb⟩
          rw [hR1]
          have HS2 := Lib.hid (HS1.out.next hb)
          replace HA := Lib.hid (RowN.below HA.out hb)
          replace HB := Lib.hid (RowN.below HB.out hb)
          clear hb
          go_wp2_with fail
          refine (LR hi b cb _ HS2.out.et HB.out HSMB.out).mono ?_
          rintro e w3 ⟨rfl, hb⟩
          rw [hR2]
          have HS3 := Lib.hid (HS2.out.next hb)
          replace HA := Lib.hid (RowN.below HA.out hb)
          replace HB := Lib.hid (RowN.below HB.out hb)
          clear hb
          go_wp2_with fail
          refine (awake16 L _ HS3.out.et).mono ?_
          rintro e w4 ⟨rfl, hb⟩
          have HS4 := Lib.hid (HS3.out.next hb)
          replace HA := Lib.hid (RowN.below HA.out hb)
          replace HB := Lib.hid (RowN.below HB.out hb)
          clear hb
          go_wp2
          go_ret
          exact ⟨by first | rfl | simp, HS4.out.below⟩
      · have hR1 := decide_eq_false hr1
        clear hr1
        go_enter Tryd.func6, Tryd.ntmps6
        go_wp2_with fail
        refine (awake16 L _ HS0.out.et).mono ?_
        rintro e w1 ⟨rfl, hb⟩
        have HS1 := Lib.hid (HS0.out.next hb)
        replace HA := Lib.hid (RowN.below HA.out hb)
        replace HB := Lib.hid (RowN.below HB.out hb)
        clear hb
        go_wp2_with fail
        refine (size9 lo a ca _ HA.out).mono ?_
        rintro e w9 ⟨rfl, rfl⟩
        rw [hF1]
        go_wp2_with fail
        refine (size9 hi b cb _ HB.out).mono ?_
        rintro e w9 ⟨rfl, rfl⟩
        rw [hF2]
        go_wp2_with fail
        refine (LR lo a ca _ HS1.out.et HA.out HSMA.out).mono ?_
        rintro e w2 ⟨rfl, hb⟩
        rw [hR1]
        have HS2 := Lib.hid (HS1.out.next hb)
        replace HA := Lib.hid (RowN.below HA.out hb)
        replace HB := Lib.hid (RowN.below HB.out hb)
        clear hb
        go_wp2_with fail
        refine (awake16 L _ HS2.out.et).mono ?_
        rintro e w3 ⟨rfl, hb⟩
        have HS3 := Lib.hid (HS2.out.next hb)
        replace HA := Lib.hid (RowN.below HA.out hb)
        replace HB := Lib.hid (RowN.below HB.out hb)
        clear hb
        go_wp2
        go_ret
        exact ⟨by first | rfl | simp, HS3.out.below⟩
    · have hF2 : (if SizeOK hi then (1 : Int) else 0) = 0 := if_neg hf2
      clear hf2
      clear hf1
      go_enter Tryd.func6, Tryd.ntmps6
      go_wp2_with fail
      refine (awake16 L _ HS0.out.et).mono ?_
      rintro e w1 ⟨rfl, hb⟩
      have HS1 := Lib.hid (HS0.out.next hb)
      replace HA := Lib.hid (RowN.below HA.out hb)
      replace HB := Lib.hid (RowN.below HB.out hb)
      clear hb
      go_wp2_with fail
      refine (size9 lo a ca _ HA.out).mono ?_
      rintro e w9 ⟨rfl, rfl⟩
      rw [hF1]
      go_wp2_with fail
      refine (size9 hi b cb _ HB.out).mono ?_
      rintro e w9 ⟨rfl, rfl⟩
      rw [hF2]
      go_wp2_with fail
      refine (awake16 L _ HS1.out.et).mono ?_
      rintro e w2 ⟨rfl, hb⟩
      have HS2 := Lib.hid (HS1.out.next hb)
      replace HA := Lib.hid (RowN.below HA.out hb)
      replace HB := Lib.hid (RowN.below HB.out hb)
      clear hb
      go_wp2
      go_ret
      exact ⟨by first | rfl | simp, HS2.out.below⟩
  · have hF1 : (if SizeOK lo then (1 : Int) else 0) = 0 := if_neg hf1
    clear hf1
    go_enter Tryd.func6, Tryd.ntmps6
    go_wp2_with fail
    refine (awake16 L _ HS0.out.et).mono ?_
    rintro e w1 ⟨rfl, hb⟩
    have HS1 := Lib.hid (HS0.out.next hb)
    replace HA := Lib.hid (RowN.below HA.out hb)
    replace HB := Lib.hid (RowN.below HB.out hb)
    clear hb
    go_wp2_with fail
    refine (size9 lo a ca _ HA.out).mono ?_
    rintro e w9 ⟨rfl, rfl⟩
    rw [hF1]
    go_wp2_with fail
    refine (awake16 L _ HS1.out.et).mono ?_
    rintro e w2 ⟨rfl, hb⟩
    have HS2 := Lib.hid (HS1.out.next hb)
    replace HA := Lib.hid (RowN.below HA.out hb)
    replace HB := Lib.hid (RowN.below HB.out hb)
    clear hb
    go_wp2
    go_ret
    exact ⟨by first | rfl | simp, HS2.out.below⟩
end Go.Proofs.YtlnjbadbpddlmaaDoor
