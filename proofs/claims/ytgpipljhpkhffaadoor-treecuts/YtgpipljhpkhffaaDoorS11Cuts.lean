/-
  The law TreeCuts walked over Tree11: for every tree, text and number it returns true and changes nothing that was there. Conditions: package tree answers as Tree11 says; the tree lies in memory; errorType holds error's type.
-/
import Derived.Test.YtgpipljhpkhffaaDoorS11Awake
import Derived.Test.YtgpipljhpkhffaaDoorS11SpecR
import Derived.IntWalk
import Derived.Deep.LoopGhost
namespace Go.Proofs.YtgpipljhpkhffaaDoor
open Go.RowKit

attribute [local go_sem] oldC_forall
set_option maxRecDepth 10000 in
set_option maxHeartbeats 8000000 in
theorem lawCuts (L : Tree11) (LR : Read11) (t : List Ent) (a : Option Addr) (cap : Nat) (p : ByteArray) (n : Nat) (W : World) (hg : EtLaid W) (h : Ents W a cap t) (hn : n < 256) : Calls Tryd.prog 5 #[.slice a t.length cap, .string p, .int .u8 (n : Int)] W fun e w' => e = .returned (.bool true) ∧ Below W.heap.size W w' := by
  have HS0 := Lib.hid (st_self hg)
  have HE := Lib.hid h
  clear hg h
  by_cases hz : SizeOK t
  · have HSM := Lib.hid (sm_size hz)
    have HL7 := Lib.hid hz.1
    by_cases hp : (100 : Int) < (p.size : Int)
    · go_enter Tryd.func5, Tryd.ntmps5
      go_wp2_with fail
      refine (awake11 L _ HS0.out.et).mono ?_
      rintro e w1 ⟨rfl, hb⟩
      have HS1 := Lib.hid (HS0.out.next hb)
      replace HE := Lib.hid (HE.out.below hb)
      clear hb
      go_wp2_with fail
      refine (size9 t a cap _ HE.out).mono ?_
      rintro e w9 ⟨rfl, rfl⟩
      rw [if_pos hz]
      go_wp2_with fail
      refine (awake11 L _ HS1.out.et).mono ?_
      rintro e w2 ⟨rfl, hb⟩
      have HS2 := Lib.hid (HS1.out.next hb)
      replace HE := Lib.hid (HE.out.below hb)
      clear hb
      go_wp2
      go_ret
      exact ⟨by first | rfl | simp, HS2.out.below⟩
    · by_cases ht : TreeL t
      · have HT := Lib.hid ht
        have HP := Lib.hid (show p.size ≤ 100 by omega)
        obtain ⟨r, hr⟩ : ∃ r, rdV t p.data.toList = r := ⟨_, rfl⟩
        have HR := Lib.hid hr
        have HRF := Lib.hid (fun h => read_file (t := t) (p := p) h)
        rw [hr] at HRF
        clear hr
        obtain ⟨n1, sd⟩ := r
        go_enter Tryd.func5, Tryd.ntmps5
        go_wp2_with fail
        refine (awake11 L _ HS0.out.et).mono ?_
        rintro e w1 ⟨rfl, hb⟩
        have HS1 := Lib.hid (HS0.out.next hb)
        replace HE := Lib.hid (HE.out.below hb)
        clear hb
        go_wp2_with fail
        refine (size9 t a cap _ HE.out).mono ?_
        rintro e w9 ⟨rfl, rfl⟩
        rw [if_pos hz]
        go_wp2_with fail
        refine (L.tree t a cap _ HS1.out.et HE.out HSM.out).mono ?_
        rintro e w2 ⟨rfl, hb⟩
        have HS2 := Lib.hid (HS1.out.next hb)
        replace HE := Lib.hid (HE.out.below hb)
        clear hb
        rw [decide_eq_true ht]
        go_wp2_with fail
        refine (LR t a cap p _ HS2.out.et HE.out HT.out (by have := HL7.out; omega) (by have := HP.out; omega)).mono ?_
        rw [HR.out]
        rintro e w3 ⟨er1, rfl, e9, hb⟩
        have HS3 := Lib.hid (HS2.out.next hb)
        replace HE := Lib.hid (HE.out.below hb)
        clear hb
        have Her1 := Lib.hid e9
        clear e9
        go_wp2_with fail
        refine (code_er _ _ _ Her1.out HS3.out.et).mono ?_
        rintro e w4 ⟨rfl, hb⟩
        have HS4 := Lib.hid (HS3.out.next hb)
        replace HE := Lib.hid (HE.out.below hb)
        replace Her1 := Lib.hid (Her1.out.below hb)
        clear hb
        by_cases h1 : n1 = 0
        · subst h1
          obtain ⟨b1, b2⟩ := HRF.out rfl
          obtain rfl : sd = _ := (Prod.mk.inj b2).2
          have HSZ := Lib.hid (dat_size HT.out b1)
          have HCS := Lib.hid (cut_same HT.out b1)
          obtain ⟨c1, c2, c3⟩ := cut_file HT.out b1 n (by omega)
          have HST := Lib.hid (stays_ct HT.out p (n : Int))
          rw [c1] at HST
          have c4 := (stays_tree HST.out).2
          obtain ⟨sd, hsd⟩ : ∃ sd, datV t p.data.toList = sd := ⟨_, rfl⟩
          rw [hsd] at HSZ HCS c1 c2 c3 c4 ⊢
          have HDZ := Lib.hid (cutD_size sd n)
          have HDS := Lib.hid (fun k => cutD_same sd n k)
          have HD0 := Lib.hid (fun i => cutD_zero sd n i)
          obtain ⟨D, hD⟩ : ∃ D, cutD sd n = D := ⟨_, rfl⟩
          rw [hD] at HDZ HDS HD0
          have hD2 : (⟨(padL sd.data.toList n).toArray⟩ : ByteArray) = D := hD
          rw [hD2] at c1 c2 c3 c4
          obtain ⟨X, hX⟩ : ∃ X, wth t (p, 1, D) = X := ⟨_, rfl⟩
          rw [hX] at c1 c2 c3 c4
          have HCX := Lib.hid c1
          have HTX := Lib.hid c2
          have HRX := Lib.hid c3
          have HLX := Lib.hid c4
          have hw1 : IntKind.i64.wrap (n : Int) = (n : Int) := IntWalk.i64_in _ (by omega)
          clear b1 b2 c1 c2 c3 c4 hsd hD hD2 hX HRF HR HST
          go_wp2_with fail
          refine (L.cut t a cap p (n : Int) _ HS4.out.et HE.out HT.out (by have := HL7.out; omega) (by have := HP.out; omega) (by omega)).mono ?_
          rw [HCX.out]
          rintro e w5 ⟨a1, c1, er2, rfl, h9, e9, hb⟩
          have HS5 := Lib.hid (HS4.out.next hb)
          replace HE := Lib.hid (HE.out.below hb)
          replace Her1 := Lib.hid (Her1.out.below hb)
          clear hb
          have HX := Lib.hid h9
          have Her2 := Lib.hid e9
          clear h9 e9
          go_wp2_with fail
          refine (LR X _ _ p _ HS5.out.et HX.out HTX.out (by have := HLX.out; have := HL7.out; omega) (by have := HP.out; omega)).mono ?_
          rw [HRX.out]
          rintro e w6 ⟨er3, rfl, e9, hb⟩
          have HS6 := Lib.hid (HS5.out.next hb)
          replace HE := Lib.hid (HE.out.below hb)
          replace Her1 := Lib.hid (Her1.out.below hb)
          replace HX := Lib.hid (HX.out.below hb)
          replace Her2 := Lib.hid (Her2.out.below hb)
          clear hb
          have Her3 := Lib.hid e9
          clear e9
          go_wp2_with fail
          refine (L.cut t a cap p (sd.size : Int) _ HS6.out.et HE.out HT.out (by have := HL7.out; omega) (by have := HP.out; omega) (by have := HSZ.out; omega)).mono ?_
          rw [HCS.out]
          rintro e w7 ⟨a2, c2, er4, rfl, h9, e9, hb⟩
          have HS7 := Lib.hid (HS6.out.next hb)
          replace HE := Lib.hid (HE.out.below hb)
          replace Her1 := Lib.hid (Her1.out.below hb)
          replace HX := Lib.hid (HX.out.below hb)
          replace Her2 := Lib.hid (Her2.out.below hb)
          replace Her3 := Lib.hid (Her3.out.below hb)
          clear hb
          have HY := Lib.hid h9
          have Her4 := Lib.hid e9
          clear h9 e9
          have HC2 : Hid (∀ w0 w', OldC w0 w' → OldC w7 w' → Calls Tryd.prog 10 #[er2] w' fun e w'' => e = .returned (.int .i64 0) ∧ OldC w0 w'') := fun w0 w' hw hv => by
            refine (code_er _ _ w' (Her2.out.below hv) (HS7.out.next hv).et).mono ?_
            rintro e w'' ⟨rfl, hb⟩
            exact ⟨rfl, hw.then hb⟩
          have HC3 : Hid (∀ w0 w', OldC w0 w' → OldC w7 w' → Calls Tryd.prog 10 #[er3] w' fun e w'' => e = .returned (.int .i64 0) ∧ OldC w0 w'') := fun w0 w' hw hv => by
            refine (code_er _ _ w' (Her3.out.below hv) (HS7.out.next hv).et).mono ?_
            rintro e w'' ⟨rfl, hb⟩
            exact ⟨rfl, hw.then hb⟩
          by_cases hkk : (n : Int) < (sd.size : Int)
          · have d1 : ((D.extract 0 n).toList == (sd.extract 0 n).toList) = true := by rw [HDS.out n (by omega) (by omega)]; simp
            have d2 : (D.size : Int) = (n : Int) := by have := HDZ.out; omega
            have d3 : ((n : Nat) : Int) ≤ (D.size : Int) := by omega
            have d4 : ((n : Nat) : Int) ≤ (sd.size : Int) := by omega
            have d5 : (0 : Int) ≤ ((n : Nat) : Int) := by omega
            go_wp2_with fail
            refine wp_region_old (by kernel_rfl) (by kernel_rfl) ?_
            repeat (go_big_quiet_step ((first | (intro hw; with_reducible exact HC2.out _ _ hw hw) | (intro hw; with_reducible exact HC3.out _ _ hw hw))))
            refine wpQuiet_nil ?_
            intro w8 hb
            have HS8 := Lib.hid (HS7.out.next hb)
            replace HE := Lib.hid (HE.out.below hb)
            replace Her1 := Lib.hid (Her1.out.below hb)
            replace HX := Lib.hid (HX.out.below hb)
            replace Her2 := Lib.hid (Her2.out.below hb)
            replace Her3 := Lib.hid (Her3.out.below hb)
            replace HY := Lib.hid (HY.out.below hb)
            replace Her4 := Lib.hid (Her4.out.below hb)
            clear hb
            go_wp2
            clear d1 d3 d4 d5
            go_loopg [16] (n - n) (fun g i wx => ∃ (m : Nat), i = .int .i64 (m : Int) ∧ n ≤ m ∧ m + g = n ∧ w8 = wx)
            case atStart => exact ⟨n, rfl, Nat.le_refl _, by omega, rfl⟩
            case round =>
              obtain ⟨m, rfl, hm1, hm2, rfl⟩ := hrel
              by_cases hlt : m < n
              · have hlt' : (m : Int) < (D.size : Int) := by omega
                have hwm : IntKind.i64.wrap ((m : Int) + 1) = (m : Int) + 1 := IntWalk.i64_in _ (by omega)
                have hmD : m < D.size := by have := HDZ.out; omega
                have h0 := HD0.out m (by omega) hlt
                have e0 : D[m] = 0 := by
                  rw [Array.getElem?_toList] at h0
                  obtain ⟨h1, h2⟩ := Array.getElem?_eq_some_iff.1 h0
                  exact h2
                go_wp2
                go_roundg (gk - 1)
                case measure => omega
                case rel => exact ⟨m + 1, by simp, by omega, by omega, rfl⟩
              · have hlt' : ¬ (m : Int) < (D.size : Int) := by omega
                go_wp2_with fail
                refine (code_er _ _ _ Her4.out HS8.out.et).mono ?_
                rintro e w9 ⟨rfl, hb⟩
                have HS9 := Lib.hid (HS8.out.next hb)
                replace HE := Lib.hid (HE.out.below hb)
                replace Her1 := Lib.hid (Her1.out.below hb)
                replace HX := Lib.hid (HX.out.below hb)
                replace Her2 := Lib.hid (Her2.out.below hb)
                replace Her3 := Lib.hid (Her3.out.below hb)
                replace HY := Lib.hid (HY.out.below hb)
                replace Her4 := Lib.hid (Her4.out.below hb)
                clear hb
                go_wp2_with fail
                refine (same9 _ _ _ _ _ _ _ HY.out HE.out (by have := HL7.out; unfold maxLen; omega)).mono ?_
                rintro e w10 ⟨rfl, hb⟩
                have HS10 := Lib.hid (HS9.out.next hb)
                replace HE := Lib.hid (HE.out.below hb)
                replace Her1 := Lib.hid (Her1.out.below hb)
                replace HX := Lib.hid (HX.out.below hb)
                replace Her2 := Lib.hid (Her2.out.below hb)
                replace Her3 := Lib.hid (Her3.out.below hb)
                replace HY := Lib.hid (HY.out.below hb)
                replace Her4 := Lib.hid (Her4.out.below hb)
                clear hb
                rw [if_pos rfl]
                go_wp2
                go_ret
                exact ⟨by first | rfl | simp, HS10.out.below⟩
          · have d1 : ((D.extract 0 sd.size).toList == (sd.extract 0 sd.size).toList) = true := by rw [HDS.out sd.size (by omega) (by omega)]; simp
            have d7 : ((D.extract 0 sd.size).toList == sd.toList) = true := by rw [HDS.out sd.size (by omega) (by omega)]; simp
            have d2 : (D.size : Int) = (n : Int) := by have := HDZ.out; omega
            have d3 : ((sd.size : Nat) : Int) ≤ (D.size : Int) := by omega
            have d4 : ((sd.size : Nat) : Int) ≤ (sd.size : Int) := by omega
            have d5 : (0 : Int) ≤ ((sd.size : Nat) : Int) := by omega
            go_wp2_with fail
            refine wp_region_old (by kernel_rfl) (by kernel_rfl) ?_
            repeat (go_big_quiet_step ((first | (intro hw; with_reducible exact HC2.out _ _ hw hw) | (intro hw; with_reducible exact HC3.out _ _ hw hw))))
            refine wpQuiet_nil ?_
            intro w8 hb
            have HS8 := Lib.hid (HS7.out.next hb)
            replace HE := Lib.hid (HE.out.below hb)
            replace Her1 := Lib.hid (Her1.out.below hb)
            replace HX := Lib.hid (HX.out.below hb)
            replace Her2 := Lib.hid (Her2.out.below hb)
            replace Her3 := Lib.hid (Her3.out.below hb)
            replace HY := Lib.hid (HY.out.below hb)
            replace Her4 := Lib.hid (Her4.out.below hb)
            clear hb
            go_wp2
            clear d1 d3 d4 d5
            go_loopg [16] (n - sd.size) (fun g i wx => ∃ (m : Nat), i = .int .i64 (m : Int) ∧ sd.size ≤ m ∧ m + g = n ∧ w8 = wx)
            case atStart => exact ⟨sd.size, rfl, Nat.le_refl _, by omega, rfl⟩
            case round =>
              obtain ⟨m, rfl, hm1, hm2, rfl⟩ := hrel
              by_cases hlt : m < n
              · have hlt' : (m : Int) < (D.size : Int) := by omega
                have hwm : IntKind.i64.wrap ((m : Int) + 1) = (m : Int) + 1 := IntWalk.i64_in _ (by omega)
                have hmD : m < D.size := by have := HDZ.out; omega
                have h0 := HD0.out m (by omega) hlt
                have e0 : D[m] = 0 := by
                  rw [Array.getElem?_toList] at h0
                  obtain ⟨h1, h2⟩ := Array.getElem?_eq_some_iff.1 h0
                  exact h2
                go_wp2
                go_roundg (gk - 1)
                case measure => omega
                case rel => exact ⟨m + 1, by simp, by omega, by omega, rfl⟩
              · have hlt' : ¬ (m : Int) < (D.size : Int) := by omega
                go_wp2_with fail
                refine (code_er _ _ _ Her4.out HS8.out.et).mono ?_
                rintro e w9 ⟨rfl, hb⟩
                have HS9 := Lib.hid (HS8.out.next hb)
                replace HE := Lib.hid (HE.out.below hb)
                replace Her1 := Lib.hid (Her1.out.below hb)
                replace HX := Lib.hid (HX.out.below hb)
                replace Her2 := Lib.hid (Her2.out.below hb)
                replace Her3 := Lib.hid (Her3.out.below hb)
                replace HY := Lib.hid (HY.out.below hb)
                replace Her4 := Lib.hid (Her4.out.below hb)
                clear hb
                go_wp2_with fail
                refine (same9 _ _ _ _ _ _ _ HY.out HE.out (by have := HL7.out; unfold maxLen; omega)).mono ?_
                rintro e w10 ⟨rfl, hb⟩
                have HS10 := Lib.hid (HS9.out.next hb)
                replace HE := Lib.hid (HE.out.below hb)
                replace Her1 := Lib.hid (Her1.out.below hb)
                replace HX := Lib.hid (HX.out.below hb)
                replace Her2 := Lib.hid (Her2.out.below hb)
                replace Her3 := Lib.hid (Her3.out.below hb)
                replace HY := Lib.hid (HY.out.below hb)
                replace Her4 := Lib.hid (Her4.out.below hb)
                clear hb
                rw [if_pos rfl]
                go_wp2
                go_ret
                exact ⟨by first | rfl | simp, HS10.out.below⟩
        · have g1 : ((n1 : Int) == 0) = false := beq_eq_false_iff_ne.2 h1
          have g2 : ((n1 : Int) != 0) = true := by rw [bne, g1]; rfl
          clear h1 HRF
          go_wp2
          go_ret
          exact ⟨by first | rfl | simp, HS4.out.below⟩
      · go_enter Tryd.func5, Tryd.ntmps5
        go_wp2_with fail
        refine (awake11 L _ HS0.out.et).mono ?_
        rintro e w1 ⟨rfl, hb⟩
        have HS1 := Lib.hid (HS0.out.next hb)
        replace HE := Lib.hid (HE.out.below hb)
        clear hb
        go_wp2_with fail
        refine (size9 t a cap _ HE.out).mono ?_
        rintro e w9 ⟨rfl, rfl⟩
        rw [if_pos hz]
        go_wp2_with fail
        refine (L.tree t a cap _ HS1.out.et HE.out HSM.out).mono ?_
        rintro e w2 ⟨rfl, hb⟩
        have HS2 := Lib.hid (HS1.out.next hb)
        replace HE := Lib.hid (HE.out.below hb)
        clear hb
        rw [decide_eq_false ht]
        go_wp2_with fail
        refine (awake11 L _ HS2.out.et).mono ?_
        rintro e w3 ⟨rfl, hb⟩
        have HS3 := Lib.hid (HS2.out.next hb)
        replace HE := Lib.hid (HE.out.below hb)
        clear hb
        go_wp2
        go_ret
        exact ⟨by first | rfl | simp, HS3.out.below⟩
  · go_enter Tryd.func5, Tryd.ntmps5
    go_wp2_with fail
    refine (awake11 L _ HS0.out.et).mono ?_
    rintro e w1 ⟨rfl, hb⟩
    have HS1 := Lib.hid (HS0.out.next hb)
    replace HE := Lib.hid (HE.out.below hb)
    clear hb
    go_wp2_with fail
    refine (size9 t a cap _ HE.out).mono ?_
    rintro e w9 ⟨rfl, rfl⟩
    rw [if_neg hz]
    go_wp2_with fail
    refine (awake11 L _ HS1.out.et).mono ?_
    rintro e w2 ⟨rfl, hb⟩
    have HS2 := Lib.hid (HS1.out.next hb)
    replace HE := Lib.hid (HE.out.below hb)
    clear hb
    go_wp2
    go_ret
    exact ⟨by first | rfl | simp, HS2.out.below⟩
end Go.Proofs.YtgpipljhpkhffaaDoor
