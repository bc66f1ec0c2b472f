/-
  The law StepOnes walked over Step16, Two15, Right15: for every two layers it returns true and changes nothing that was there. Conditions: packages step, merge and layer answer as these say; the layers lie in memory; errorType holds error's type.
-/
import Derived.Test.YtlnjbadbpddlmaaDoorPo
import Derived.Test.YtlnjbadbpddlmaaDoorPd
import Derived.Test.YtlnjbadbpddlmaaDoorPc
import Derived.IntWalk
import Derived.Deep.LoopGhost
namespace Go.Proofs.YtlnjbadbpddlmaaDoor
open Go.RowKit

set_option maxRecDepth 10000 in
set_option maxHeartbeats 16000000 in
theorem lawOnes16 {M : World → Nat → (Nat → Prop) → List Ent → List Ent → Bool → Nat → Prop} (L : Step16 M) (LR : Right15) (lo hi : List Ent) (a : Option Addr) (ca : Nat) (b : Option Addr) (cb : Nat) (bt : Bool) (W : World) (hg : EtLaid W) (ha : Ents W a ca lo) (hb0 : Ents W b cb hi) :
    Calls Tryd.prog 4 #[.slice a lo.length ca, .slice b hi.length cb, .bool bt] W fun e w' => e = .returned (.bool true) ∧ Below W.heap.size W w' := by
  have HS0 := Lib.hid (st_self hg)
  have HG := Lib.hid hg
  have HA := Lib.hid ha
  have HB := Lib.hid hb0
  have HA0 := Lib.hid ha
  have HB0 := Lib.hid hb0
  clear hg ha hb0
  by_cases hf1 : SizeOK lo
  · have hF1 : (if SizeOK lo then (1 : Int) else 0) = 1 := if_pos hf1
    by_cases hf2 : SizeOK hi
    · have hF2 : (if SizeOK hi then (1 : Int) else 0) = 1 := if_pos hf2
      have HSMA := Lib.hid (sm_size hf1)
      have HSMB := Lib.hid (sm_size hf2)
      clear hf1 hf2
      by_cases hr1 : RightL lo
      · have hR1 := decide_eq_true hr1
        have HR1 := Lib.hid hr1
        clear hr1
        by_cases hr2 : RightL hi
        · have hR2 := decide_eq_true hr2
          have HR2 := Lib.hid hr2
          clear hr2
          obtain ⟨n0, X, htw⟩ : ∃ n X, twV lo hi bt = (n, X) := ⟨_, _, rfl⟩
          have HXL := Lib.hid (show X.length ≤ maxLen by
            rcases tw_cases lo hi bt with ⟨_, h9⟩ | ⟨_, _, _, h9⟩ | ⟨_, _, h8, h9⟩
            · rw [htw] at h9; cases h9; simp [maxLen]
            · rw [htw] at h9; cases h9; simp [maxLen]
            · rw [htw] at h9; cases h9; unfold maxLen; omega)
          have HLY : Hid (∀ w q F, EtLaid w → Mg M W w q F lo hi bt hi.length → Calls Tryd.prog 16 #[.pointer (some ⟨q, 0, none⟩)] w fun e w' => ∃ a' c' er, e = .returned (.tuple #[.slice a' X.length c', er]) ∧ Ents w' a' c' X ∧ Er w' n0 er ∧ Below w.heap.size w w') := fun w q F h1 h2 => by
            have := L.layer q F lo hi bt hi.length w h1 h2.at_
            rwa [lyV_ready, htw] at this
          clear htw
          have HL64 := Lib.hid (show hi.length ≤ 64 from HR2.out.1)
          have HI64 : (hi.length : Int) ≤ 64 := by have := HL64.out; omega
          go_enter Tryd.func4, Tryd.ntmps4
          go_wp2_with fail
          refine (awake16 L _ HS0.out.et).mono ?_
          rintro e w1 ⟨rfl, hb⟩
          have HS1 := Lib.hid (HS0.out.next hb)
          replace HA := Lib.hid (RowN.below HA.out hb)
          replace HB := Lib.hid (RowN.below HB.out hb)
          clear hb
          go_wp2_with fail
          refine (size9 lo a ca _ HA.out).mono ?_
          rintro e w9 ⟨rfl, rfl⟩
          rw [hF1]
          go_wp2_with fail
          refine (size9 hi b cb _ HB.out).mono ?_
          rintro e w9 ⟨rfl, rfl⟩
          rw [hF2]
          go_wp2_with fail
          refine (LR lo a ca _ HS1.out.et HA.out HSMA.out).mono ?_
          rintro e w2 ⟨rfl, hb⟩
          rw [hR1]
          have HS2 := Lib.hid (HS1.out.next hb)
          replace HA := Lib.hid (RowN.below HA.out hb)
          replace HB := Lib.hid (RowN.below HB.out hb)
          clear hb
          go_wp2_with fail
          refine (LR hi b cb _ HS2.out.et HB.out HSMB.out).mono ?_
          rintro e w3 ⟨rfl, hb⟩
          rw [hR2]
          have HS3 := Lib.hid (HS2.out.next hb)
          replace HA := Lib.hid (RowN.below HA.out hb)
          replace HB := Lib.hid (RowN.below HB.out hb)
          clear hb
          go_wp2_with fail
          refine (beginMg L lo hi a b ca cb bt HS3.out HA.out HB.out HR1.out HR2.out).mono ?_
          rintro e w4 ⟨bM, FM, rfl, hm, -, hb⟩
          have HM := Lib.hid hm
          clear hm
          have HS4 := Lib.hid (HS3.out.next hb)
          replace HA := Lib.hid (RowN.below HA.out hb)
          replace HB := Lib.hid (RowN.below HB.out hb)
          clear hb
          go_wp2
          go_loopg [9] hi.length (fun g i wx => ∃ (k : Nat) (F : Nat → Prop), i = .int .i64 (k : Int) ∧ k + g = hi.length ∧ Hid (Mg M W wx bM F lo hi bt k) ∧ Hid (St W wx))
          case atStart => exact ⟨0, FM, rfl, by omega, HM.out, HS4.out⟩
          case round =>
            clear HM HA HB
            obtain ⟨k, F, rfl, hk, HM, HS0⟩ := hrel
            have hw : IntKind.i64.wrap ((k : Int) + 1) = (k : Int) + 1 := IntWalk.i64_in _ (by omega)
            by_cases hlt : k < hi.length
            · have hlt' : (k : Int) < (hi.length : Int) := by omega
              have hsub : IntKind.i64.wrap ((hi.length : Int) - (k : Int)) = ((hi.length - k : Nat) : Int) := by rw [IntWalk.i64_in _ (by omega)]; omega
              have HX1 := Lib.hid (show min (1 : Int).toNat (hi.length - k) = 1 by show min 1 (hi.length - k) = 1; omega)
              have hne : decide (k = hi.length) = false := decide_eq_false (by omega)
              obtain ⟨w0, hw0⟩ : ∃ w, w = wr := ⟨_, rfl⟩
              subst hw0
              go_wp2_with fail
              refine (L.ready _ _ _ _ _ _ _ HS0.out.et HM.out.at_).mono ?_
              rintro e w1 ⟨rfl, hb⟩
              rw [hne]
              have HS1 := Lib.hid (HS0.out.next hb)
              replace HM := Lib.hid (HM.out.next L hb)
              clear hb
              go_wp2_with fail
              refine (L.left _ _ _ _ _ _ _ HS1.out.et HM.out.at_).mono ?_
              rintro e w2 ⟨rfl, hb⟩
              have HS2 := Lib.hid (HS1.out.next hb)
              replace HM := Lib.hid (HM.out.next L hb)
              clear hb
              go_wp2_with fail
              refine (stepMg L 1 1 HG.out HS2.out HM.out (by decide) HX1.out).mono ?_
              rintro e w3 ⟨FHM3, rfl, hm, hs, hF, hf⟩
              replace HM := Lib.hid hm
              have HS3 := Lib.hid hs
              clear hm hs
              go_wp2_with fail
              refine (code_er 0 .nilIface _ (er_nil _) HS3.out.et).mono ?_
              rintro e w4 ⟨rfl, hb⟩
              have HS4 := Lib.hid (HS3.out.next hb)
              replace HM := Lib.hid (HM.out.next L hb)
              clear hb
              go_wp2
              go_roundg (gk - 1)
              case measure => omega
              case rel => exact ⟨k + 1, FHM3, by simp, by omega, HM.out, HS4.out⟩
            · have hlt' : ¬ (k : Int) < (hi.length : Int) := by omega
              obtain rfl : k = hi.length := by omega

              obtain ⟨w0, hw0⟩ : ∃ w, w = wr := ⟨_, rfl⟩
              subst hw0
              go_wp2_with fail
              refine (HLY.out _ _ _ HS0.out.et HM.out).mono ?_
              rintro e w1 ⟨aX, cX, eX, rfl, h9, e9, hb⟩
              have HX := Lib.hid h9
              have HEX := Lib.hid e9
              clear h9 e9
              have HS1 := Lib.hid (HS0.out.next hb)
              replace HM := Lib.hid (HM.out.next L hb)
              clear hb
              go_wp2_with fail
              refine (HLY.out _ _ _ HS1.out.et HM.out).mono ?_
              rintro e w2 ⟨aY, cY, eY, rfl, h9, e9, hb⟩
              have HY := Lib.hid h9
              have HEY := Lib.hid e9
              clear h9 e9
              have HS2 := Lib.hid (HS1.out.next hb)
              replace HM := Lib.hid (HM.out.next L hb)
              replace HX := Lib.hid (RowN.below HX.out hb)
              replace HEX := Lib.hid (HEX.out.below hb)
              clear hb
              go_wp2_with fail
              refine (L.stepNil 1 _ HS2.out.et).mono ?_
              rintro e w3 ⟨eH, rfl, e9, hb⟩
              have HEH := Lib.hid e9
              clear e9
              have HS3 := Lib.hid (HS2.out.next hb)
              replace HM := Lib.hid (HM.out.next L hb)
              replace HX := Lib.hid (RowN.below HX.out hb)
              replace HEX := Lib.hid (HEX.out.below hb)
              replace HY := Lib.hid (RowN.below HY.out hb)
              replace HEY := Lib.hid (HEY.out.below hb)
              clear hb
              go_wp2_with fail
              refine (L.layerNil _ HS3.out.et).mono ?_
              rintro e w4 ⟨aN, cN, eI, rfl, e9, hb⟩
              have HEI := Lib.hid e9
              clear e9
              have HS4 := Lib.hid (HS3.out.next hb)
              replace HM := Lib.hid (HM.out.next L hb)
              replace HX := Lib.hid (RowN.below HX.out hb)
              replace HEX := Lib.hid (HEX.out.below hb)
              replace HY := Lib.hid (RowN.below HY.out hb)
              replace HEY := Lib.hid (HEY.out.below hb)
              replace HEH := Lib.hid (HEH.out.below hb)
              clear hb
              go_wp2_with fail
              refine (code_er 0 .nilIface _ (er_nil _) HS4.out.et).mono ?_
              rintro e w5 ⟨rfl, hb⟩
              have HS5 := Lib.hid (HS4.out.next hb)
              replace HM := Lib.hid (HM.out.next L hb)
              replace HX := Lib.hid (RowN.below HX.out hb)
              replace HEX := Lib.hid (HEX.out.below hb)
              replace HY := Lib.hid (RowN.below HY.out hb)
              replace HEY := Lib.hid (HEY.out.below hb)
              replace HEH := Lib.hid (HEH.out.below hb)
              replace HEI := Lib.hid (HEI.out.below hb)
              clear hb
              go_wp2_with fail
              refine (L.ready _ _ _ _ _ _ _ HS5.out.et HM.out.at_).mono ?_
              rintro e w6 ⟨rfl, hb⟩
              rw [decide_eq_true (rfl : hi.length = hi.length)]
              have HS6 := Lib.hid (HS5.out.next hb)
              replace HM := Lib.hid (HM.out.next L hb)
              replace HX := Lib.hid (RowN.below HX.out hb)
              replace HEX := Lib.hid (HEX.out.below hb)
              replace HY := Lib.hid (RowN.below HY.out hb)
              replace HEY := Lib.hid (HEY.out.below hb)
              replace HEH := Lib.hid (HEH.out.below hb)
              replace HEI := Lib.hid (HEI.out.below hb)
              clear hb
              go_wp2_with fail
              refine (code_er _ _ _ HEX.out HS6.out.et).mono ?_
              rintro e w7 ⟨rfl, hb⟩
              have HS7 := Lib.hid (HS6.out.next hb)
              replace HM := Lib.hid (HM.out.next L hb)
              replace HX := Lib.hid (RowN.below HX.out hb)
              replace HEX := Lib.hid (HEX.out.below hb)
              replace HY := Lib.hid (RowN.below HY.out hb)
              replace HEY := Lib.hid (HEY.out.below hb)
              replace HEH := Lib.hid (HEH.out.below hb)
              replace HEI := Lib.hid (HEI.out.below hb)
              clear hb
              go_wp2_with fail
              refine (code_er _ _ _ HEY.out HS7.out.et).mono ?_
              rintro e w8 ⟨rfl, hb⟩
              have HS8 := Lib.hid (HS7.out.next hb)
              replace HM := Lib.hid (HM.out.next L hb)
              replace HX := Lib.hid (RowN.below HX.out hb)
              replace HEX := Lib.hid (HEX.out.below hb)
              replace HY := Lib.hid (RowN.below HY.out hb)
              replace HEY := Lib.hid (HEY.out.below hb)
              replace HEH := Lib.hid (HEH.out.below hb)
              replace HEI := Lib.hid (HEI.out.below hb)
              clear hb
              go_wp2_with fail
              refine (same9 _ _ _ _ _ _ _ HX.out HY.out HXL.out).mono ?_
              rintro e w9 ⟨rfl, hb⟩
              rw [if_pos rfl]
              have HS9 := Lib.hid (HS8.out.next hb)
              replace HM := Lib.hid (HM.out.next L hb)
              replace HX := Lib.hid (RowN.below HX.out hb)
              replace HEX := Lib.hid (HEX.out.below hb)
              replace HY := Lib.hid (RowN.below HY.out hb)
              replace HEY := Lib.hid (HEY.out.below hb)
              replace HEH := Lib.hid (HEH.out.below hb)
              replace HEI := Lib.hid (HEI.out.below hb)
              clear hb
              go_wp2_with fail
              refine (code_er _ _ _ HEH.out HS9.out.et).mono ?_
              rintro e w10 ⟨rfl, hb⟩
              have HS10 := Lib.hid (HS9.out.next hb)
              replace HM := Lib.hid (HM.out.next L hb)
              replace HX := Lib.hid (RowN.below HX.out hb)
              replace HEX := Lib.hid (HEX.out.below hb)
              replace HY := Lib.hid (RowN.below HY.out hb)
              replace HEY := Lib.hid (HEY.out.below hb)
              replace HEH := Lib.hid (HEH.out.below hb)
              replace HEI := Lib.hid (HEI.out.below hb)
              clear hb
              go_wp2_with fail
              refine (code_er _ _ _ HEI.out HS10.out.et).mono ?_
              rintro e w11 ⟨rfl, hb⟩
              have HS11 := Lib.hid (HS10.out.next hb)
              replace HM := Lib.hid (HM.out.next L hb)
              replace HX := Lib.hid (RowN.below HX.out hb)
              replace HEX := Lib.hid (HEX.out.below hb)
              replace HY := Lib.hid (RowN.below HY.out hb)
              replace HEY := Lib.hid (HEY.out.below hb)
              replace HEH := Lib.hid (HEH.out.below hb)
              replace HEI := Lib.hid (HEI.out.below hb)
              clear hb
              go_wp2_with fail
              refine (L.leftNil _ HS11.out.et).mono ?_
              rintro e w12 ⟨rfl, hb⟩
              have HS12 := Lib.hid (HS11.out.next hb)
              replace HM := Lib.hid (HM.out.next L hb)
              replace HX := Lib.hid (RowN.below HX.out hb)
              replace HEX := Lib.hid (HEX.out.below hb)
              replace HY := Lib.hid (RowN.below HY.out hb)
              replace HEY := Lib.hid (HEY.out.below hb)
              replace HEH := Lib.hid (HEH.out.below hb)
              replace HEI := Lib.hid (HEI.out.below hb)
              clear hb
              go_wp2_with fail
              refine (L.readyNil _ HS12.out.et).mono ?_
              rintro e w13 ⟨rfl, hb⟩
              have HS13 := Lib.hid (HS12.out.next hb)
              replace HM := Lib.hid (HM.out.next L hb)
              replace HX := Lib.hid (RowN.below HX.out hb)
              replace HEX := Lib.hid (HEX.out.below hb)
              replace HY := Lib.hid (RowN.below HY.out hb)
              replace HEY := Lib.hid (HEY.out.below hb)
              replace HEH := Lib.hid (HEH.out.below hb)
              replace HEI := Lib.hid (HEI.out.below hb)
              clear hb
              go_wp2
              go_ret
              exact ⟨by first | rfl | simp, HS13.out.below⟩
        · have hR2 := decide_eq_false hr2
          clear hr2
          go_enter Tryd.func4, Tryd.ntmps4
          go_wp2_with fail
          refine (awake16 L _ HS0.out.et).mono ?_
          rintro e w1 ⟨rfl, hb⟩
          have HS1 := Lib.hid (HS0.out.next hb)
          replace HA := Lib.hid (RowN.below HA.out hb)
          replace HB := Lib.hid (RowN.below HB.out hb)
          clear hb
          go_wp2_with fail
          refine (size9 lo a ca _ HA.out).mono ?_
          rintro e w9 ⟨rfl, rfl⟩
          rw [hF1]
          go_wp2_with fail
          refine (size9 hi b cb _ HB.out).mono ?_
          rintro e w9 ⟨rfl, rfl⟩
          rw [hF2]
          go_wp2_with fail
          refine (LR lo a ca _ HS1.out.et HA.out HSMA.out).mono ?_
          rintro e w2 ⟨rfl, hb⟩
          rw [hR1]
          have HS2 := Lib.hid (HS1.out.next hb)
          replace HA := Lib.hid (RowN.below HA.out hb)
          replace HB := Lib.hid (RowN.below HB.out hb)
          clear hb
          go_wp2_with fail
          refine (LR hi b cb _ HS2.out.et HB.out HSMB.out).mono ?_
          rintro e w3 ⟨rfl, hb⟩
          rw [hR2]
          have HS3 := Lib.hid (HS2.out.next hb)
          replace HA := Lib.hid (RowN.below HA.out hb)
          replace HB := Lib.hid (RowN.below HB.out hb)
          clear hb
          go_wp2_with fail
          refine (awake16 L _ HS3.out.et).mono ?_
          rintro e w4 ⟨rfl, hb⟩
          have HS4 := Lib.hid (HS3.out.next hb)
          replace HA := Lib.hid (RowN.below HA.out hb)
          replace HB := Lib.hid (RowN.below HB.out hb)
          clear hb
          go_wp2
          go_ret
          exact ⟨by first | rfl | simp, HS4.out.below⟩
      · have hR1 := decide_eq_false hr1
        clear hr1
        go_enter Tryd.func4, Tryd.ntmps4
        go_wp2_with fail
        refine (awake16 L _ HS0.out.et).mono ?_
        rintro e w1 ⟨rfl, hb⟩
        have HS1 := Lib.hid (HS0.out.next hb)
        replace HA := Lib.hid (RowN.below HA.out hb)
        replace HB := Lib.hid (RowN.below HB.out hb)
        clear hb
        go_wp2_with fail
        refine (size9 lo a ca _ HA.out).mono ?_
        rintro e w9 ⟨rfl, rfl⟩
        rw [hF1]
        go_wp2_with fail
        refine (size9 hi b cb _ HB.out).mono ?_
        rintro e w9 ⟨rfl, rfl⟩
        rw [hF2]
        go_wp2_with fail
        refine (LR lo a ca _ HS1.out.et HA.out HSMA.out).mono ?_
        rintro e w2 ⟨rfl, hb⟩
        rw [hR1]
        have HS2 := Lib.hid (HS1.out.next hb)
        replace HA := Lib.hid (RowN.below HA.out hb)
        replace HB := Lib.hid (RowN.below HB.out hb)
        clear hb
        go_wp2_with fail
        refine (awake16 L _ HS2.out.et).mono ?_
        rintro e w3 ⟨rfl, hb⟩
        have HS3 := Lib.hid (HS2.out.next hb)
        replace HA := Lib.hid (RowN.below HA.out hb)
        replace HB := Lib.hid (RowN.below HB.out hb)
        clear hb
        go_wp2
        go_ret
        exact ⟨by first | rfl | simp, HS3.out.below⟩
    · have hF2 : (if SizeOK hi then (1 : Int) else 0) = 0 := if_neg hf2
      clear hf2
      clear hf1
      go_enter Tryd.func4, Tryd.ntmps4
      go_wp2_with fail
      refine (awake16 L _ HS0.out.et).mono ?_
      rintro e w1 ⟨rfl, hb⟩
      have HS1 := Lib.hid (HS0.out.next hb)
      replace HA := Lib.hid (RowN.below HA.out hb)
      replace HB := Lib.hid (RowN.below HB.out hb)
      clear hb
      go_wp2_with fail
      refine (size9 lo a ca _ HA.out).mono ?_
      rintro e w9 ⟨rfl, rfl⟩
      rw [hF1]
      go_wp2_with fail
      refine (size9 hi b cb _ HB.out).mono ?_
      rintro e w9 ⟨rfl, rfl⟩
      rw [hF2]
      go_wp2_with fail
      refine (awake16 L _ HS1.out.et).mono ?_
      rintro e w2 ⟨rfl, hb⟩
      have HS2 := Lib.hid (HS1.out.next hb)
      replace HA := Lib.hid (RowN.below HA.out hb)
      replace HB := Lib.hid (RowN.below HB.out hb)
      clear hb
      go_wp2
      go_ret
      exact ⟨by first | rfl | simp, HS2.out.below⟩
  · have hF1 : (if SizeOK lo then (1 : Int) else 0) = 0 := if_neg hf1
    clear hf1
    go_enter Tryd.func4, Tryd.ntmps4
    go_wp2_with fail
    refine (awake16 L _ HS0.out.et).mono ?_
    rintro e w1 ⟨rfl, hb⟩
    have HS1 := Lib.hid (HS0.out.next hb)
    replace HA := Lib.hid (RowN.below HA.out hb)
    replace HB := Lib.hid (RowN.below HB.out hb)
    clear hb
    go_wp2_with fail
    refine (size9 lo a ca _ HA.out).mono ?_
    rintro e w9 ⟨rfl, rfl⟩
    rw [hF1]
    go_wp2_with fail
    refine (awake16 L _ HS1.out.et).mono ?_
    rintro e w2 ⟨rfl, hb⟩
    have HS2 := Lib.hid (HS1.out.next hb)
    replace HA := Lib.hid (RowN.below HA.out hb)
    replace HB := Lib.hid (RowN.below HB.out hb)
    clear hb
    go_wp2
    go_ret
    exact ⟨by first | rfl | simp, HS2.out.below⟩
end Go.Proofs.YtlnjbadbpddlmaaDoor
