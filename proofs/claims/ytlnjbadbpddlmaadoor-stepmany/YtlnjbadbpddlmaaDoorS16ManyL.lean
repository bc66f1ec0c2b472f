/-
  The law StepMany walked over Step16, Two15, Right15: for every two layers and a number it returns true and changes nothing that was there. Conditions: packages step, merge and layer answer as these say; the layers lie in memory; errorType holds error's type.
-/
import Derived.Test.YtlnjbadbpddlmaaDoorPo
import Derived.Test.YtlnjbadbpddlmaaDoorPd
import Derived.Test.YtlnjbadbpddlmaaDoorPc
import Derived.IntWalk
import Derived.Deep.LoopGhost
namespace Go.Proofs.YtlnjbadbpddlmaaDoor
open Go.RowKit

set_option maxRecDepth 10000 in
set_option maxHeartbeats 16000000 in
theorem lawMany16 {M : World → Nat → (Nat → Prop) → List Ent → List Ent → Bool → Nat → Prop} (L : Step16 M) (LR : Right15) (lo hi : List Ent) (a : Option Addr) (ca : Nat) (b : Option Addr) (cb : Nat) (bt : Bool) (z : Nat) (hz : z ≤ 255) (W : World) (hg : EtLaid W) (ha : Ents W a ca lo) (hb0 : Ents W b cb hi) :
    Calls Tryd.prog 5 #[.slice a lo.length ca, .slice b hi.length cb, .bool bt, .int .u8 (z : Int)] W fun e w' => e = .returned (.bool true) ∧ Below W.heap.size W w' := by
  have HS0 := Lib.hid (st_self hg)
  have HG := Lib.hid hg
  have HA := Lib.hid ha
  have HB := Lib.hid hb0
  have HA0 := Lib.hid ha
  have HB0 := Lib.hid hb0
  clear hg ha hb0
  by_cases hf1 : SizeOK lo
  · have hF1 : (if SizeOK lo then (1 : Int) else 0) = 1 := if_pos hf1
    by_cases hf2 : SizeOK hi
    · have hF2 : (if SizeOK hi then (1 : Int) else 0) = 1 := if_pos hf2
      have HSMA := Lib.hid (sm_size hf1)
      have HSMB := Lib.hid (sm_size hf2)
      clear hf1 hf2
      by_cases hr1 : RightL lo
      · have hR1 := decide_eq_true hr1
        have HR1 := Lib.hid hr1
        clear hr1
        by_cases hr2 : RightL hi
        · have hR2 := decide_eq_true hr2
          have HR2 := Lib.hid hr2
          clear hr2
          obtain ⟨n0, X, htw⟩ : ∃ n X, twV lo hi bt = (n, X) := ⟨_, _, rfl⟩
          have HXL := Lib.hid (show X.length ≤ maxLen by
            rcases tw_cases lo hi bt with ⟨_, h9⟩ | ⟨_, _, _, h9⟩ | ⟨_, _, h8, h9⟩
            · rw [htw] at h9; cases h9; simp [maxLen]
            · rw [htw] at h9; cases h9; simp [maxLen]
            · rw [htw] at h9; cases h9; unfold maxLen; omega)
          have HLY : Hid (∀ w q F, EtLaid w → Mg M W w q F lo hi bt hi.length → Calls Tryd.prog 16 #[.pointer (some ⟨q, 0, none⟩)] w fun e w' => ∃ a' c' er, e = .returned (.tuple #[.slice a' X.length c', er]) ∧ Ents w' a' c' X ∧ Er w' n0 er ∧ Below w.heap.size w w') := fun w q F h1 h2 => by
            have := L.layer q F lo hi bt hi.length w h1 h2.at_
            rwa [lyV_ready, htw] at this
          clear htw
          have HL64 := Lib.hid (show hi.length ≤ 64 from HR2.out.1)
          have HI64 : (hi.length : Int) ≤ 64 := by have := HL64.out; omega
          obtain ⟨K, hK⟩ : ∃ K, 1 + z % 70 = K := ⟨_, rfl⟩
          have hc1 : IntKind.i64.wrap (z : Int) = (z : Int) := IntWalk.i64_in _ (by omega)
          have hc2 : IntKind.i64.wrap (1 + (z : Int) % 70) = (K : Int) := by
            rw [show 1 + (z : Int) % 70 = (K : Int) by omega]
            exact IntWalk.i64_in _ (by omega)
          have HK := Lib.hid (show 1 ≤ K ∧ K ≤ 70 by omega)
          clear hK
          obtain ⟨m, hm0⟩ : ∃ m, min K hi.length = m := ⟨_, rfl⟩
          have HMN := Lib.hid hm0
          have HX1 := Lib.hid (show min (K : Int).toNat (hi.length - 0) = m by rw [← hm0]; simp)
          have HX2 := Lib.hid (show min (100 : Int).toNat (hi.length - m) = hi.length - m by show min 100 (hi.length - m) = hi.length - m; have := HL64.out; omega)
          have HX3 := Lib.hid (show m + (hi.length - m) = hi.length by omega)
          have hmin : (if hi.length < K then (hi.length : Int) else (K : Int)) = (m : Int) := by split <;> omega
          clear hm0
          go_enter Tryd.func5, Tryd.ntmps5
          go_wp2_with fail
          refine (awake16 L _ HS0.out.et).mono ?_
          rintro e w1 ⟨rfl, hb⟩
          have HS1 := Lib.hid (HS0.out.next hb)
          replace HA := Lib.hid (RowN.below HA.out hb)
          replace HB := Lib.hid (RowN.below HB.out hb)
          clear hb
          go_wp2_with fail
          refine (size9 lo a ca _ HA.out).mono ?_
          rintro e w9 ⟨rfl, rfl⟩
          rw [hF1]
          go_wp2_with fail
          refine (size9 hi b cb _ HB.out).mono ?_
          rintro e w9 ⟨rfl, rfl⟩
          rw [hF2]
          go_wp2_with fail
          refine (LR lo a ca _ HS1.out.et HA.out HSMA.out).mono ?_
          rintro e w2 ⟨rfl, hb⟩
          rw [hR1]
          have HS2 := Lib.hid (HS1.out.next hb)
          replace HA := Lib.hid (RowN.below HA.out hb)
          replace HB := Lib.hid (RowN.below HB.out hb)
          clear hb
          go_wp2_with fail
          refine (LR hi b cb _ HS2.out.et HB.out HSMB.out).mono ?_
          rintro e w3 ⟨rfl, hb⟩
          rw [hR2]
          have HS3 := Lib.hid (HS2.out.next hb)
          replace HA := Lib.hid (RowN.below HA.out hb)
          replace HB := Lib.hid (RowN.below HB.out hb)
          clear hb
          go_wp2_with fail
          refine (beginMg L lo hi a b ca cb bt HS3.out HA.out HB.out HR1.out HR2.out).mono ?_
          rintro e w4 ⟨bA, FA, rfl, hm, -, hb⟩
          have HMA := Lib.hid hm
          clear hm
          have HS4 := Lib.hid (HS3.out.next hb)
          replace HA := Lib.hid (RowN.below HA.out hb)
          replace HB := Lib.hid (RowN.below HB.out hb)
          clear hb
          go_wp2_with fail
          refine (beginMg L lo hi a b ca cb bt HS4.out HA.out HB.out HR1.out HR2.out).mono ?_
          rintro e w5 ⟨bB, FB, rfl, hm, hF, hb⟩
          have HD := Lib.hid (show ∀ j, FB j → ¬ FA j from fun j hj h9 => by have := L.lt HMA.out.at_ j h9; have := hF j hj; omega)
          clear hF
          have HMB := Lib.hid hm
          clear hm
          have HS5 := Lib.hid (HS4.out.next hb)
          replace HA := Lib.hid (RowN.below HA.out hb)
          replace HB := Lib.hid (RowN.below HB.out hb)
          replace HMA := Lib.hid (HMA.out.next L hb)
          clear hb
          go_wp2_with fail
          refine (stepMg L (K : Int) m HG.out HS5.out HMA.out (by have := HK.out; omega) HX1.out).mono ?_
          rintro e w6 ⟨FC, rfl, hm, hs, hF, hf⟩
          rw [Nat.zero_add] at hm
          have HD2 := Lib.hid (show ∀ j, FB j → ¬ FC j from fun j hj h9 => by
            rcases hF j h9 with h8 | h8
            · exact HD.out j hj h8
            · have := L.lt HMB.out.at_ j hj; omega)
          replace HMB := Lib.hid (HMB.out.other L hf HD.out)
          replace HMA := Lib.hid hm
          have HS6 := Lib.hid hs
          clear hm hs hF hf HD HA HB
          go_wp2
          go_loopg [16, 17] K (fun g s i wx => ∃ (j c : Nat) (F : Nat → Prop), s = .int .i64 (c : Int) ∧ i = .int .i64 (j : Int) ∧ j + g = K ∧ Hid (c = min j hi.length) ∧ Hid (Mg M W wx bB F lo hi bt c) ∧ Hid (Mg M W wx bA FC lo hi bt m) ∧ Hid (∀ j, F j → ¬ FC j) ∧ Hid (St W wx))
          case atStart => exact ⟨0, 0, FB, rfl, rfl, by omega, by simp [Hid], HMB.out, HMA.out, HD2.out, HS6.out⟩
          case round =>
            clear HMA HMB HD2
            obtain ⟨j, c, F, rfl, rfl, hj, HC, HMB, HMA, HD, HS0⟩ := hrel
            have hw : IntKind.i64.wrap ((j : Int) + 1) = (j : Int) + 1 := IntWalk.i64_in _ (by have := HK.out; omega)
            obtain ⟨w0, hw0⟩ : ∃ w, w = wr := ⟨_, rfl⟩
            subst hw0
            by_cases hlt : j < K
            · have hlt' : (j : Int) < (K : Int) := by omega
              obtain ⟨d, hd⟩ : ∃ d, min 1 (hi.length - c) = d := ⟨_, rfl⟩
              have HDD := Lib.hid (show min (1 : Int).toNat (hi.length - c) = d from hd)
              have HC1 := Lib.hid (show c + d = min (j + 1) hi.length by have := HC.out; omega)
              have hw2 : IntKind.i64.wrap ((c : Int) + (d : Int)) = (c : Int) + (d : Int) := IntWalk.i64_in _ (by have := HC1.out; have := HK.out; omega)
              clear hd
              go_wp2_with fail
              refine (stepMg L 1 d HG.out HS0.out HMB.out (by decide) HDD.out).mono ?_
              rintro e w1 ⟨F2, rfl, hm, hs, hF, hf⟩
              have HD2 := Lib.hid (show ∀ j, F2 j → ¬ FC j from fun j hj h9 => by
                rcases hF j hj with h8 | h8
                · exact HD.out j h8 h9
                · have := L.lt HMA.out.at_ j h9; omega)
              replace HMA := Lib.hid (HMA.out.other L hf fun j h9 h8 => HD.out j h8 h9)
              replace HMB := Lib.hid hm
              have HS1 := Lib.hid hs
              clear hm hs hF hf HD
              go_wp2
              go_roundg (K - (j + 1))
              case measure => omega
              case rel => exact ⟨j + 1, c + d, F2, by simp, by simp, by omega, HC1.out, HMB.out, HMA.out, HD2.out, HS1.out⟩
            · have hlt' : ¬ (j : Int) < (K : Int) := by omega
              obtain rfl : c = m := by rw [HC.out, ← HMN.out]; congr 1; omega
              go_wp2_with fail
              refine (code_er 0 .nilIface _ (er_nil _) HS0.out.et).mono ?_
              rintro e w1 ⟨rfl, hb⟩
              have HS1 := Lib.hid (HS0.out.next hb)
              replace HMA := Lib.hid (HMA.out.next L hb)
              replace HMB := Lib.hid (HMB.out.next L hb)
              clear hb
              go_wp2_with fail
              refine (code_er 0 .nilIface _ (er_nil _) HS1.out.et).mono ?_
              rintro e w2 ⟨rfl, hb⟩
              have HS2 := Lib.hid (HS1.out.next hb)
              replace HMA := Lib.hid (HMA.out.next L hb)
              replace HMB := Lib.hid (HMB.out.next L hb)
              clear hb
              go_wp2_with fail
              refine (code_er 0 .nilIface _ (er_nil _) HS2.out.et).mono ?_
              rintro e w3 ⟨rfl, hb⟩
              have HS3 := Lib.hid (HS2.out.next hb)
              replace HMA := Lib.hid (HMA.out.next L hb)
              replace HMB := Lib.hid (HMB.out.next L hb)
              clear hb
              go_wp2_with fail
              refine (L.left _ _ _ _ _ _ _ HS3.out.et HMA.out.at_).mono ?_
              rintro e w4 ⟨rfl, hb⟩
              have HS4 := Lib.hid (HS3.out.next hb)
              replace HMA := Lib.hid (HMA.out.next L hb)
              replace HMB := Lib.hid (HMB.out.next L hb)
              clear hb
              go_wp2_with fail
              refine (L.left _ _ _ _ _ _ _ HS4.out.et HMB.out.at_).mono ?_
              rintro e w5 ⟨rfl, hb⟩
              have HS5 := Lib.hid (HS4.out.next hb)
              replace HMA := Lib.hid (HMA.out.next L hb)
              replace HMB := Lib.hid (HMB.out.next L hb)
              clear hb
              go_wp2_with fail
              refine (stepMg L 100 (hi.length - c) HG.out HS5.out HMA.out (by decide) HX2.out).mono ?_
              rintro e w6 ⟨F3, rfl, hm, hs, hF, hf⟩
              rw [HX3.out] at hm
              have HD2 := Lib.hid (show ∀ j, F j → ¬ F3 j from fun j hj h9 => by
                rcases hF j h9 with h8 | h8
                · exact HD.out j hj h8
                · have := L.lt HMB.out.at_ j hj; omega)
              replace HMB := Lib.hid (HMB.out.other L hf HD.out)
              replace HMA := Lib.hid hm
              have HS6 := Lib.hid hs
              clear hm hs hF hf HD
              go_wp2_with fail
              refine (stepMg L 100 (hi.length - c) HG.out HS6.out HMB.out (by decide) HX2.out).mono ?_
              rintro e w7 ⟨F4, rfl, hm, hs, hF, hf⟩
              rw [HX3.out] at hm
              replace HMA := Lib.hid (HMA.out.other L hf fun j h9 h8 => HD2.out j h8 h9)
              replace HMB := Lib.hid hm
              have HS7 := Lib.hid hs
              clear hm hs hF hf HD2
              go_wp2_with fail
              refine (HLY.out _ _ _ HS7.out.et HMA.out).mono ?_
              rintro e w8 ⟨aX, cX, eX, rfl, h9, e9, hb⟩
              have HX := Lib.hid h9
              have HEX := Lib.hid e9
              clear h9 e9
              have HS8 := Lib.hid (HS7.out.next hb)
              replace HMA := Lib.hid (HMA.out.next L hb)
              replace HMB := Lib.hid (HMB.out.next L hb)
              clear hb
              go_wp2_with fail
              refine (HLY.out _ _ _ HS8.out.et HMB.out).mono ?_
              rintro e w9 ⟨aY, cY, eY, rfl, h9, e9, hb⟩
              have HY := Lib.hid h9
              have HEY := Lib.hid e9
              clear h9 e9
              have HS9 := Lib.hid (HS8.out.next hb)
              replace HMA := Lib.hid (HMA.out.next L hb)
              replace HMB := Lib.hid (HMB.out.next L hb)
              replace HX := Lib.hid (RowN.below HX.out hb)
              replace HEX := Lib.hid (HEX.out.below hb)
              clear hb
              go_wp2_with fail
              refine (code_er _ _ _ HEX.out HS9.out.et).mono ?_
              rintro e w10 ⟨rfl, hb⟩
              have HS10 := Lib.hid (HS9.out.next hb)
              replace HMA := Lib.hid (HMA.out.next L hb)
              replace HMB := Lib.hid (HMB.out.next L hb)
              replace HX := Lib.hid (RowN.below HX.out hb)
              replace HEX := Lib.hid (HEX.out.below hb)
              replace HY := Lib.hid (RowN.below HY.out hb)
              replace HEY := Lib.hid (HEY.out.below hb)
              clear hb
              go_wp2_with fail
              refine (code_er _ _ _ HEY.out HS10.out.et).mono ?_
              rintro e w11 ⟨rfl, hb⟩
              have HS11 := Lib.hid (HS10.out.next hb)
              replace HMA := Lib.hid (HMA.out.next L hb)
              replace HMB := Lib.hid (HMB.out.next L hb)
              replace HX := Lib.hid (RowN.below HX.out hb)
              replace HEX := Lib.hid (HEX.out.below hb)
              replace HY := Lib.hid (RowN.below HY.out hb)
              replace HEY := Lib.hid (HEY.out.below hb)
              clear hb
              go_wp2_with fail
              refine (same9 _ _ _ _ _ _ _ HX.out HY.out HXL.out).mono ?_
              rintro e w12 ⟨rfl, hb⟩
              rw [if_pos rfl]
              have HS12 := Lib.hid (HS11.out.next hb)
              replace HMA := Lib.hid (HMA.out.next L hb)
              replace HMB := Lib.hid (HMB.out.next L hb)
              replace HX := Lib.hid (RowN.below HX.out hb)
              replace HEX := Lib.hid (HEX.out.below hb)
              replace HY := Lib.hid (RowN.below HY.out hb)
              replace HEY := Lib.hid (HEY.out.below hb)
              clear hb
              go_wp2
              go_ret
              exact ⟨by first | rfl | simp, HS12.out.below⟩
        · have hR2 := decide_eq_false hr2
          clear hr2
          go_enter Tryd.func5, Tryd.ntmps5
          go_wp2_with fail
          refine (awake16 L _ HS0.out.et).mono ?_
          rintro e w1 ⟨rfl, hb⟩
          have HS1 := Lib.hid (HS0.out.next hb)
          replace HA := Lib.hid (RowN.below HA.out hb)
          replace HB := Lib.hid (RowN.below HB.out hb)
          clear hb
          go_wp2_with fail
          refine (size9 lo a ca _ HA.out).mono ?_
          rintro e w9 ⟨rfl, rfl⟩
          rw [hF1]
          go_wp2_with fail
          refine (size9 hi b cb _ HB.out).mono ?_
          rintro e w9 ⟨rfl, rfl⟩
          rw [hF2]
          go_wp2_with fail
          refine (LR lo a ca _ HS1.out.et HA.out HSMA.out).mono ?_
          rintro e w2 ⟨rfl, hb⟩
          rw [hR1]
          have HS2 := Lib.hid (HS1.out.next hb)
          replace HA := Lib.hid (RowN.below HA.out hb)
          replace HB := Lib.hid (RowN.below HB.out hb)
          clear hb
          go_wp2_with fail
          refine (LR hi b cb _ HS2.out.et HB.out HSMB.out).mono ?_
          rintro e w3 ⟨rfl, hb⟩
          rw [hR2]
          have HS3 := Lib.hid (HS2.out.next hb)
          replace HA := Lib.hid (RowN.below HA.out hb)
          replace HB := Lib.hid (RowN.below HB.out hb)
          clear hb
          go_wp2_with fail
          refine (awake16 L _ HS3.out.et).mono ?_
          rintro e w4 ⟨rfl, hb⟩
          have HS4 := Lib.hid (HS3.out.next hb)
          replace HA := Lib.hid (RowN.below HA.out hb)
          replace HB := Lib.hid (RowN.below HB.out hb)
          clear hb
          go_wp2
          go_ret
          exact ⟨by first | rfl | simp, HS4.out.below⟩
      · have hR1 := decide_eq_false hr1
        clear hr1
        go_enter Tryd.func5, Tryd.ntmps5
        go_wp2_with fail
        refine (awake16 L _ HS0.out.et).mono ?_
        rintro e w1 ⟨rfl, hb⟩
        have HS1 := Lib.hid (HS0.out.next hb)
        replace HA := Lib.hid (RowN.below HA.out hb)
        replace HB := Lib.hid (RowN.below HB.out hb)
        clear hb
        go_wp2_with fail
        refine (size9 lo a ca _ HA.out).mono ?_
        rintro e w9 ⟨rfl, rfl⟩
        rw [hF1]
        go_wp2_with fail
        refine (size9 hi b cb _ HB.out).mono ?_
        rintro e w9 ⟨rfl, rfl⟩
        rw [hF2]
        go_wp2_with fail
        refine (LR lo a ca _ HS1.out.et HA.out HSMA.out).mono ?_
        rintro e w2 ⟨rfl, hb⟩
        rw [hR1]
        have HS2 := Lib.hid (HS1.out.next hb)
        replace HA := Lib.hid (RowN.below HA.out hb)
        replace HB := Lib.hid (RowN.below HB.out hb)
        clear hb
        go_wp2_with fail
        refine (awake16 L _ HS2.out.et).mono ?_
        rintro e w3 ⟨rfl, hb⟩
        have HS3 := Lib.hid (HS2.out.next hb)
        replace HA := Lib.hid (RowN.below HA.out hb)
        replace HB := Lib.hid (RowN.below HB.out hb)
        clear hb
        go_wp2
        go_ret
        exact ⟨by first | rfl | simp, HS3.out.below⟩
    · have hF2 : (if SizeOK hi then (1 : Int) else 0) = 0 := if_neg hf2
      clear hf2
      clear hf1
      go_enter Tryd.func5, Tryd.ntmps5
      go_wp2_with fail
      refine (awake16 L _ HS0.out.et).mono ?_
      rintro e w1 ⟨rfl, hb⟩
      have HS1 := Lib.hid (HS0.out.next hb)
      replace HA := Lib.hid (RowN.below HA.out hb)
      replace HB := Lib.hid (RowN.below HB.out hb)
      clear hb
      go_wp2_with fail
      refine (size9 lo a ca _ HA.out).mono ?_
      rintro e w9 ⟨rfl, rfl⟩
      rw [hF1]
      go_wp2_with fail
      refine (size9 hi b cb _ HB.out).mono ?_
      rintro e w9 ⟨rfl, rfl⟩
      rw [hF2]
      go_wp2_with fail
      refine (awake16 L _ HS1.out.et).mono ?_
      rintro e w2 ⟨rfl, hb⟩
      have HS2 := Lib.hid (HS1.out.next hb)
      replace HA := Lib.hid (RowN.below HA.out hb)
      replace HB := Lib.hid (RowN.below HB.out hb)
      clear hb
      go_wp2
      go_ret
      exact ⟨by first | rfl | simp, HS2.out.below⟩
  · have hF1 : (if SizeOK lo then (1 : Int) else 0) = 0 := if_neg hf1
    clear hf1
    go_enter Tryd.func5, Tryd.ntmps5
    go_wp2_with fail
    refine (awake16 L _ HS0.out.et).mono ?_
    rintro e w1 ⟨rfl, hb⟩
    have HS1 := Lib.hid (HS0.out.next hb)
    replace HA := Lib.hid (RowN.below HA.out hb)
    replace HB := Lib.hid (RowN.below HB.out hb)
    clear hb
    go_wp2_with fail
    refine (size9 lo a ca _ HA.out).mono ?_
    rintro e w9 ⟨rfl, rfl⟩
    rw [hF1]
    go_wp2_with fail
    refine (awake16 L _ HS1.out.et).mono ?_
    rintro e w2 ⟨rfl, hb⟩
    have HS2 := Lib.hid (HS1.out.next hb)
    replace HA := Lib.hid (RowN.below HA.out hb)
    replace HB := Lib.hid (RowN.below HB.out hb)
    clear hb
    go_wp2
    go_ret
    exact ⟨by first | rfl | simp, HS2.out.below⟩
theorem many_end {M : World → Nat → (Nat → Prop) → List Ent → List Ent → Bool → Nat → Prop} (L : Step16 M) (LR : Right15) (lo hi : List Ent) (a : Option Addr) (ca : Nat) (b : Option Addr) (cb : Nat) (bt : Bool) (k : Int) (W : World) (hg : EtLaid W) (ha : Ents W a ca lo) (hb0 : Ents W b cb hi) (hk : 0 ≤ k ∧ k ≤ 255) :
    Calls Tryd.prog 5 #[.slice a lo.length ca, .slice b hi.length cb, .bool bt, .int .u8 k] W fun e w' => e = .returned (.bool true) ∧ Below W.heap.size W w' := by
  obtain ⟨n, rfl⟩ := Int.eq_ofNat_of_zero_le hk.1
  exact lawMany16 L LR lo hi a ca b cb bt n (by have := hk.2; omega) W hg ha hb0
end Go.Proofs.YtlnjbadbpddlmaaDoor
