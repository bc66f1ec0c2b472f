/-
  The law StepAlike walked over Step16, Two15, Right15: for every two layers and a list of steps it returns true and changes nothing that was there. Conditions: packages step, merge and layer answer as these say; the layers lie in memory; errorType holds error's type.
-/
import Derived.Test.YtlnjbadbpddlmaaDoorPo
import Derived.Test.YtlnjbadbpddlmaaDoorPd
import Derived.Test.YtlnjbadbpddlmaaDoorPc
import Derived.IntWalk
import Derived.Deep.LoopGhost
namespace Go.Proofs.YtlnjbadbpddlmaaDoor
open Go.RowKit

attribute [local go_sem ↓] old_ldi
attribute [local go_sem] oldC_forall isC1_ptr c1V_ptr
set_option maxRecDepth 10000 in
set_option maxHeartbeats 16000000 in
theorem lawAlike16 {M : World → Nat → (Nat → Prop) → List Ent → List Ent → Bool → Nat → Prop} (L : Step16 M) (L2 : Two15) (LR : Right15) (lo hi : List Ent) (a : Option Addr) (ca : Nat) (b : Option Addr) (cb : Nat) (bt : Bool) (ST : List Int) (a3 : Option Addr) (c3 : Nat) (W : World) (hg : EtLaid W) (ha : Ents W a ca lo) (hb0 : Ents W b cb hi) (hr3 : RowOf (Value.int .i64) W a3 c3 ST) (hz9 : ∀ z ∈ ST, -9223372036854775808 ≤ z ∧ z ≤ 9223372036854775807) :
    Calls Tryd.prog 3 #[.slice a lo.length ca, .slice b hi.length cb, .bool bt, .slice a3 ST.length c3] W fun e w' => e = .returned (.bool true) ∧ Below W.heap.size W w' := by
  have HS0 := Lib.hid (st_self hg)
  have HG := Lib.hid hg
  have HA := Lib.hid ha
  have HB := Lib.hid hb0
  have HA0 := Lib.hid ha
  have HB0 := Lib.hid hb0
  clear hg ha hb0
  have HR3 := Lib.hid hr3
  have HZ := Lib.hid hz9
  clear hr3 hz9
  by_cases hf1 : SizeOK lo
  · have hF1 : (if SizeOK lo then (1 : Int) else 0) = 1 := if_pos hf1
    by_cases hf2 : SizeOK hi
    · have hF2 : (if SizeOK hi then (1 : Int) else 0) = 1 := if_pos hf2
      by_cases h100 : (100 : Int) < (ST.length : Int)
      · clear hf1 hf2
        go_enter Tryd.func3, Tryd.ntmps3
        go_wp2_with fail
        refine (awake16 L _ HS0.out.et).mono ?_
        rintro e w1 ⟨rfl, hb⟩
        have HS1 := Lib.hid (HS0.out.next hb)
        replace HA := Lib.hid (RowN.below HA.out hb)
        replace HB := Lib.hid (RowN.below HB.out hb)
        clear hb
        go_wp2_with fail
        refine (size9 lo a ca _ HA.out).mono ?_
        rintro e w9 ⟨rfl, rfl⟩
        rw [hF1]
        go_wp2_with fail
        refine (size9 hi b cb _ HB.out).mono ?_
        rintro e w9 ⟨rfl, rfl⟩
        rw [hF2]
        go_wp2_with fail
        refine (awake16 L _ HS1.out.et).mono ?_
        rintro e w2 ⟨rfl, hb⟩
        have HS2 := Lib.hid (HS1.out.next hb)
        replace HA := Lib.hid (RowN.below HA.out hb)
        replace HB := Lib.hid (RowN.below HB.out hb)
        clear hb
        go_wp2
        go_ret
        exact ⟨by first | rfl | simp, HS2.out.below⟩
      · have H100 := Lib.hid (show ST.length ≤ 100 by omega)
        have HSMA := Lib.hid (sm_size hf1)
        have HSMB := Lib.hid (sm_size hf2)
        clear hf1 hf2
        by_cases hr1 : RightL lo
        · have hR1 := decide_eq_true hr1
          have HR1 := Lib.hid hr1
          clear hr1
          by_cases hr2 : RightL hi
          · have hR2 := decide_eq_true hr2
            have HR2 := Lib.hid hr2
            clear hr2
            obtain ⟨n0, X, htw⟩ : ∃ n X, twV lo hi bt = (n, X) := ⟨_, _, rfl⟩
            have HXL := Lib.hid (show X.length ≤ maxLen by
              rcases tw_cases lo hi bt with ⟨_, h9⟩ | ⟨_, _, _, h9⟩ | ⟨_, _, h8, h9⟩
              · rw [htw] at h9; cases h9; simp [maxLen]
              · rw [htw] at h9; cases h9; simp [maxLen]
              · rw [htw] at h9; cases h9; unfold maxLen; omega)
            have HLY : Hid (∀ w q F, EtLaid w → Mg M W w q F lo hi bt hi.length → Calls Tryd.prog 16 #[.pointer (some ⟨q, 0, none⟩)] w fun e w' => ∃ a' c' er, e = .returned (.tuple #[.slice a' X.length c', er]) ∧ Ents w' a' c' X ∧ Er w' n0 er ∧ Below w.heap.size w w') := fun w q F h1 h2 => by
              have := L.layer q F lo hi bt hi.length w h1 h2.at_
              rwa [lyV_ready, htw] at this
            have HTW : Hid (∀ w, St W w → Calls Tryd.prog 17 #[.slice a lo.length ca, .slice b hi.length cb, .bool bt] w fun e w' => ∃ a' c' er, e = .returned (.tuple #[.slice a' X.length c', er]) ∧ Ents w' a' c' X ∧ Er w' n0 er ∧ Below w.heap.size w w') := fun w h1 => by
              have := L2 lo a ca hi b cb bt w h1.et (RowN.below HA0.out h1.below) (RowN.below HB0.out h1.below) HSMA.out HSMB.out
              rwa [htw] at this
            clear htw
            have HL64 := Lib.hid (show hi.length ≤ 64 from HR2.out.1)
            have HI64 : (hi.length : Int) ≤ 64 := by have := HL64.out; omega
            go_enter Tryd.func3, Tryd.ntmps3
            go_wp2_with fail
            refine (awake16 L _ HS0.out.et).mono ?_
            rintro e w1 ⟨rfl, hb⟩
            have HS1 := Lib.hid (HS0.out.next hb)
            replace HA := Lib.hid (RowN.below HA.out hb)
            replace HB := Lib.hid (RowN.below HB.out hb)
            clear hb
            go_wp2_with fail
            refine (size9 lo a ca _ HA.out).mono ?_
            rintro e w9 ⟨rfl, rfl⟩
            rw [hF1]
            go_wp2_with fail
            refine (size9 hi b cb _ HB.out).mono ?_
            rintro e w9 ⟨rfl, rfl⟩
            rw [hF2]
            go_wp2_with fail
            refine (beginMg L lo hi a b ca cb bt HS1.out HA.out HB.out HR1.out HR2.out).mono ?_
            rintro e w2 ⟨bM, FM, rfl, hm, -, hb⟩
            have HM := Lib.hid hm
            clear hm
            have HS2 := Lib.hid (HS1.out.next hb)
            replace HA := Lib.hid (RowN.below HA.out hb)
            replace HB := Lib.hid (RowN.below HB.out hb)
            clear hb
            go_wp2_with fail
            refine (LR lo a ca _ HS2.out.et HA.out HSMA.out).mono ?_
            rintro e w3 ⟨rfl, hb⟩
            rw [hR1]
            have HS3 := Lib.hid (HS2.out.next hb)
            replace HA := Lib.hid (RowN.below HA.out hb)
            replace HB := Lib.hid (RowN.below HB.out hb)
            replace HM := Lib.hid (HM.out.next L hb)
            clear hb
            go_wp2_with fail
            refine (LR hi b cb _ HS3.out.et HB.out HSMB.out).mono ?_
            rintro e w4 ⟨rfl, hb⟩
            rw [hR2]
            have HS4 := Lib.hid (HS3.out.next hb)
            replace HA := Lib.hid (RowN.below HA.out hb)
            replace HB := Lib.hid (RowN.below HB.out hb)
            replace HM := Lib.hid (HM.out.next L hb)
            clear hb
            go_wp2
            go_loopg [11] ST.length (fun g i wx => ∃ (j k : Nat) (F : Nat → Prop), i = .int .i64 (j : Int) ∧ j + g = ST.length ∧ Hid (leftR hi.length (ST.take j) = hi.length - k) ∧ Hid (Mg M W wx bM F lo hi bt k) ∧ Hid (St W wx))
            case atStart => exact ⟨0, 0, FM, rfl, by omega, by simp [Hid, leftR], HM.out, HS4.out⟩
            case round =>
              clear HM HA HB
              obtain ⟨j, k, F, rfl, hj, HLR, HM, HS0⟩ := hrel
              have hw : IntKind.i64.wrap ((j : Int) + 1) = (j : Int) + 1 := IntWalk.i64_in _ (by have := H100.out; omega)
              obtain ⟨w0, hw0⟩ : ∃ w, w = wr := ⟨_, rfl⟩
              subst hw0
              have HKH := Lib.hid (L.ok HM.out.at_).1
              by_cases hlt : j < ST.length
              · have hlt' : (j : Int) < (ST.length : Int) := by omega
                obtain ⟨b9, o9, s, rfl, hc9, htk, hdr⟩ := RowOf.at HR3.out HS0.out.below hlt
                have HSB := Lib.hid (HZ.out s (by rw [← List.take_append_drop j ST, hdr]; simp))
                have HCELL : Hid (∀ w', St W w' → w'.cell? ⟨b9, o9 + j, none⟩ = some (.int .i64 s)) := fun w' h' => by
                  obtain ⟨b8, o8, s8, e8, hc8, htk8, -⟩ := RowOf.at HR3.out h'.below hlt
                  cases e8
                  have : s8 = s := by
                    have := htk8.symm.trans htk
                    simpa using this
                  rw [this] at hc8
                  exact hc8
                obtain ⟨y, hy⟩ : ∃ y, stL hi.length k s = y := ⟨_, rfl⟩
                obtain ⟨z, hz⟩ : ∃ z, hi.length - (k + y) = z := ⟨_, rfl⟩
                have HYH := Lib.hid (show k + y ≤ hi.length by rw [← hy]; exact stL_le HKH.out s)
                have HTL := Lib.hid (show leftR hi.length (ST.take (j + 1)) = z by rw [htk, leftR_snoc, HLR.out, lf1_step HKH.out, hy, hz])
                have hsub : IntKind.i64.wrap (((hi.length - k : Nat) : Int) - (z : Int)) = (y : Int) := by
                  have := HKH.out
                  have := HYH.out
                  rw [IntWalk.i64_in _ (by omega)]
                  omega
                have HZE := Lib.hid hz
                have HYE := Lib.hid hy
                have HTKL := Lib.hid (show (ST.take (j + 1)).length = j + 1 by rw [List.length_take]; omega)
                have HRT := Lib.hid (show ∀ w', St W w' → RowOf (Value.int .i64) w' (some ⟨b9, o9, none⟩) c3 (ST.take (j + 1)) from fun w' h' => by
                  have h8 := HR3.out.below h'.below
                  refine ⟨by rw [HTKL.out]; have := h8.1; omega, .inr ?_⟩
                  rcases h8.2 with h7 | ⟨b8, o8, e8, hl8, hc8⟩
                  · rw [h7] at hlt; simp at hlt
                  · cases e8
                    refine ⟨b9, o9, rfl, hl8, fun i x hx => hc8 i x ?_⟩
                    rw [List.getElem?_take] at hx
                    split at hx
                    · exact hx
                    · cases hx)
                have k1 : (0 : Int) ≤ (j : Int) + 1 := by omega
                have k2 : (j : Int) + 1 ≤ (c3 : Int) := by have := HR3.out.1; omega
                have k3 : ((j : Int) + 1).toNat = j + 1 := by omega
                have k4 : (j : Int) + 1 ≤ (ST.length : Int) := by omega
                obtain ⟨rd, hrd⟩ : ∃ rd, decide (k + y = hi.length) = rd := ⟨_, rfl⟩
                have hrd0 : ((z : Int) == 0) = rd := by
                  rw [← hrd, Bool.eq_iff_iff, beq_iff_eq, decide_eq_true_iff]
                  have := HYH.out
                  omega
                have HRD := Lib.hid hrd
                clear htk hdr hy hz hrd
                go_wp2_with fail
                refine (L.left _ _ _ _ _ _ _ HS0.out.et HM.out.at_).mono ?_
                rintro e w1 ⟨rfl, hb⟩
                have HS1 := Lib.hid (HS0.out.next hb)
                replace HM := Lib.hid (HM.out.next L hb)
                clear hb hc9
                have hc9 := HCELL.out w1 HS1.out
                go_wp2_with fail
                refine (stepAny L s HG.out HS1.out HM.out HSB.out).mono ?_
                rintro e w2 ⟨F2, er, rfl, he, hm, hs⟩
                rw [HYE.out] at hm ⊢
                replace HM := Lib.hid hm
                have HS2 := Lib.hid hs
                have HER := Lib.hid he
                clear hm hs he hc9
                have hc9 := HCELL.out w2 HS2.out
                have H2 : Hid (∀ w', OldC w2 w' → Calls Tryd.prog 12 #[.pointer (some ⟨bM, 0, none⟩)] w' fun e w'' => e = .returned (.int .i64 (z : Int)) ∧ OldC w2 w'') := fun w' hw' => by
                  refine (L.left bM F2 lo hi bt (k + y) w' (HS2.out.old hw').et (HM.out.next L hw').at_).mono ?_
                  rintro e w'' ⟨rfl, hb⟩
                  rw [HZE.out]
                  exact ⟨rfl, hw'.then hb⟩
                have H3 : Hid (∀ w', OldC w2 w' → Calls Tryd.prog 15 #[.pointer (some ⟨bM, 0, none⟩)] w' fun e w'' => e = .returned (.bool rd) ∧ OldC w2 w'') := fun w' hw' => by
                  refine (L.ready bM F2 lo hi bt (k + y) w' (HS2.out.old hw').et (HM.out.next L hw').at_).mono ?_
                  rintro e w'' ⟨rfl, hb⟩
                  rw [HRD.out]
                  exact ⟨rfl, hw'.then hb⟩
                have H4 : Hid (∀ w', OldC w2 w' → Calls Tryd.prog 14 #[.int .i64 (hi.length : Int), .slice (some ⟨b9, o9, none⟩) (j + 1) c3] w' fun e w'' => e = .returned (.int .i64 (z : Int)) ∧ OldC w2 w'') := fun w' hw' => by
                  have := refLeft16 hi.length (ST.take (j + 1)) (some ⟨b9, o9, none⟩) c3 w' (by have := HL64.out; omega) (HRT.out w' (HS2.out.old hw')) (by rw [HTKL.out]; have := H100.out; omega)
                  rw [HTKL.out, HTL.out] at this
                  refine this.mono ?_
                  rintro e w'' ⟨rfl, rfl⟩
                  exact ⟨rfl, hw'⟩
                by_cases hs1 : 1 ≤ s
                · rw [if_pos hs1] at HER
                  have hs2 : decide (1 ≤ s) = true := decide_eq_true hs1
                  have H1 : Hid (∀ w', OldC w2 w' → Calls Tryd.prog 11 #[er] w' fun e w'' => e = .returned (.int .i64 0) ∧ OldC w2 w'') := fun w' hw' => by
                    refine (code_er 0 er w' (HER.out.below hw') (HS2.out.old hw').et).mono ?_
                    rintro e w'' ⟨rfl, hb⟩
                    exact ⟨rfl, hw'.then hb⟩
                  go_wp2_with fail
                  refine wp_region_old (by kernel_rfl) (by kernel_rfl) ?_
                  repeat (go_big_quiet_step ((first | (intro hw9; with_reducible exact H1.out _ hw9) | (intro hw9; with_reducible exact H2.out _ hw9) | (intro hw9; with_reducible exact H3.out _ hw9) | (intro hw9; with_reducible exact H4.out _ hw9))))
                  refine wpQuiet_nil ?_
                  intro w3 hw3
                  have HS3 := Lib.hid (HS2.out.old hw3)
                  replace HM := Lib.hid (HM.out.next L hw3)
                  clear hw3 hc9 H1 H2 H3 H4
                  go_wp2_with fail
                  refine (L.ready _ _ _ _ _ _ _ HS3.out.et HM.out.at_).mono ?_
                  rintro e w4 ⟨rfl, hb⟩
                  rw [HRD.out]
                  have HS4 := Lib.hid (HS3.out.next hb)
                  replace HM := Lib.hid (HM.out.next L hb)
                  clear hb
                  cases rd with
                  | true =>
                    go_wp2
                    go_roundg (ST.length - (j + 1))
                    case measure => omega
                    case rel => exact ⟨j + 1, k + y, F2, by simp, by omega, by rw [HTL.out, HZE.out]; exact (rfl : z = z), HM.out, HS4.out⟩
                  | false =>
                    have HN := Lib.hid (L.layer bM F2 lo hi bt (k + y) w4 HS4.out.et HM.out.at_)
                    rw [lyV_not (of_decide_eq_false HRD.out)] at HN
                    go_wp2_with fail
                    refine (HN.out).mono ?_
                    rintro e w5 ⟨aL, cL, eL, rfl, -, e9, hb⟩
                    have HEL := Lib.hid e9
                    have HS5 := Lib.hid (HS4.out.next hb)
                    replace HM := Lib.hid (HM.out.next L hb)
                    clear hb e9
                    go_wp2_with fail
                    refine (code_er 16 eL _ HEL.out HS5.out.et).mono ?_
                    rintro e w6 ⟨rfl, hb⟩
                    have HS6 := Lib.hid (HS5.out.next hb)
                    replace HM := Lib.hid (HM.out.next L hb)
                    clear hb
                    go_wp2
                    go_roundg (ST.length - (j + 1))
                    case measure => omega
                    case rel => exact ⟨j + 1, k + y, F2, by simp, by omega, by rw [HTL.out, HZE.out]; exact (rfl : z = z), HM.out, HS6.out⟩
                · rw [if_neg hs1] at HER
                  have hs2 : decide (1 ≤ s) = false := decide_eq_false hs1
                  have H1 : Hid (∀ w', OldC w2 w' → Calls Tryd.prog 11 #[er] w' fun e w'' => e = .returned (.int .i64 1) ∧ OldC w2 w'') := fun w' hw' => by
                    refine (code_er 1 er w' (HER.out.below hw') (HS2.out.old hw').et).mono ?_
                    rintro e w'' ⟨rfl, hb⟩
                    exact ⟨rfl, hw'.then hb⟩
                  go_wp2_with fail
                  refine wp_region_old (by kernel_rfl) (by kernel_rfl) ?_
                  repeat (go_big_quiet_step ((first | (intro hw9; with_reducible exact H1.out _ hw9) | (intro hw9; with_reducible exact H2.out _ hw9) | (intro hw9; with_reducible exact H3.out _ hw9) | (intro hw9; with_reducible exact H4.out _ hw9))))
                  refine wpQuiet_nil ?_
                  intro w3 hw3
                  have HS3 := Lib.hid (HS2.out.old hw3)
                  replace HM := Lib.hid (HM.out.next L hw3)
                  clear hw3 hc9 H1 H2 H3 H4
                  go_wp2_with fail
                  refine (L.ready _ _ _ _ _ _ _ HS3.out.et HM.out.at_).mono ?_
                  rintro e w4 ⟨rfl, hb⟩
                  rw [HRD.out]
                  have HS4 := Lib.hid (HS3.out.next hb)
                  replace HM := Lib.hid (HM.out.next L hb)
                  clear hb
                  cases rd with
                  | true =>
                    go_wp2
                    go_roundg (ST.length - (j + 1))
                    case measure => omega
                    case rel => exact ⟨j + 1, k + y, F2, by simp, by omega, by rw [HTL.out, HZE.out]; exact (rfl : z = z), HM.out, HS4.out⟩
                  | false =>
                    have HN := Lib.hid (L.layer bM F2 lo hi bt (k + y) w4 HS4.out.et HM.out.at_)
                    rw [lyV_not (of_decide_eq_false HRD.out)] at HN
                    go_wp2_with fail
                    refine (HN.out).mono ?_
                    rintro e w5 ⟨aL, cL, eL, rfl, -, e9, hb⟩
                    have HEL := Lib.hid e9
                    have HS5 := Lib.hid (HS4.out.next hb)
                    replace HM := Lib.hid (HM.out.next L hb)
                    clear hb e9
                    go_wp2_with fail
                    refine (code_er 16 eL _ HEL.out HS5.out.et).mono ?_
                    rintro e w6 ⟨rfl, hb⟩
                    have HS6 := Lib.hid (HS5.out.next hb)
                    replace HM := Lib.hid (HM.out.next L hb)
                    clear hb
                    go_wp2
                    go_roundg (ST.length - (j + 1))
                    case measure => omega
                    case rel => exact ⟨j + 1, k + y, F2, by simp, by omega, by rw [HTL.out, HZE.out]; exact (rfl : z = z), HM.out, HS6.out⟩
              · have hlt' : ¬ (j : Int) < (ST.length : Int) := by omega
                go_wp2
                go_loopg [17] 70 (fun g i wx => ∃ (m k : Nat) (F : Nat → Prop), i = .int .i64 (m : Int) ∧ m + g = 70 ∧ Hid (min m hi.length ≤ k) ∧ Hid (Mg M W wx bM F lo hi bt k) ∧ Hid (St W wx))
                case atStart => exact ⟨0, k, F, rfl, by omega, by simp [Hid], HM.out, HS0.out⟩
                case round =>
                  clear HM HS0 HLR HKH
                  obtain ⟨m, k, F, rfl, hm9, HMK, HM, HS0⟩ := hrel
                  have hw9 : IntKind.i64.wrap ((m : Int) + 1) = (m : Int) + 1 := IntWalk.i64_in _ (by omega)
                  have HKH := Lib.hid (L.ok HM.out.at_).1
                  obtain ⟨w0, hw0⟩ : ∃ w, w = wr := ⟨_, rfl⟩
                  subst hw0
                  by_cases hlt9 : m < 70
                  · have hlt9' : (m : Int) < 70 := by omega
                    obtain ⟨x, hx⟩ : ∃ x, min 1 (hi.length - k) = x := ⟨_, rfl⟩
                    have HX9 := Lib.hid (show min (1 : Int).toNat (hi.length - k) = x from hx)
                    have HMK2 := Lib.hid (show min (m + 1) hi.length ≤ k + x by have := HMK.out; have := HKH.out; omega)
                    clear hx
                    go_wp2_with fail
                    refine (stepMg L 1 x HG.out HS0.out HM.out (by decide) HX9.out).mono ?_
                    rintro e w1 ⟨F2, rfl, hm, hs, -, -⟩
                    replace HM := Lib.hid hm
                    have HS1 := Lib.hid hs
                    clear hm hs
                    go_wp2
                    go_roundg (gk - 1)
                    case measure => omega
                    case rel => exact ⟨m + 1, k + x, F2, by simp, by omega, HMK2.out, HM.out, HS1.out⟩
                  · have hlt9' : ¬ (m : Int) < 70 := by omega
                    obtain rfl : k = hi.length := by have := HMK.out; have := HKH.out; have := HL64.out; omega
                    go_wp2_with fail
                    refine (HLY.out _ _ _ HS0.out.et HM.out).mono ?_
                    rintro e w1 ⟨aX, cX, eX, rfl, h9, e9, hb⟩
                    have HX := Lib.hid h9
                    have HEX := Lib.hid e9
                    clear h9 e9
                    have HS1 := Lib.hid (HS0.out.next hb)
                    replace HM := Lib.hid (HM.out.next L hb)
                    clear hb
                    go_wp2_with fail
                    refine (HTW.out _ HS1.out).mono ?_
                    rintro e w2 ⟨aY, cY, eY, rfl, h9, e9, hb⟩
                    have HY := Lib.hid h9
                    have HEY := Lib.hid e9
                    clear h9 e9
                    have HS2 := Lib.hid (HS1.out.next hb)
                    replace HM := Lib.hid (HM.out.next L hb)
                    replace HX := Lib.hid (RowN.below HX.out hb)
                    replace HEX := Lib.hid (HEX.out.below hb)
                    clear hb
                    go_wp2_with fail
                    refine (code_er 0 .nilIface _ (er_nil _) HS2.out.et).mono ?_
                    rintro e w3 ⟨rfl, hb⟩
                    have HS3 := Lib.hid (HS2.out.next hb)
                    replace HM := Lib.hid (HM.out.next L hb)
                    replace HX := Lib.hid (RowN.below HX.out hb)
                    replace HEX := Lib.hid (HEX.out.below hb)
                    replace HY := Lib.hid (RowN.below HY.out hb)
                    replace HEY := Lib.hid (HEY.out.below hb)
                    clear hb
                    go_wp2_with fail
                    refine (L.ready _ _ _ _ _ _ _ HS3.out.et HM.out.at_).mono ?_
                    rintro e w4 ⟨rfl, hb⟩
                    rw [decide_eq_true (rfl : hi.length = hi.length)]
                    have HS4 := Lib.hid (HS3.out.next hb)
                    replace HM := Lib.hid (HM.out.next L hb)
                    replace HX := Lib.hid (RowN.below HX.out hb)
                    replace HEX := Lib.hid (HEX.out.below hb)
                    replace HY := Lib.hid (RowN.below HY.out hb)
                    replace HEY := Lib.hid (HEY.out.below hb)
                    clear hb
                    go_wp2_with fail
                    refine (code_er _ _ _ HEX.out HS4.out.et).mono ?_
                    rintro e w5 ⟨rfl, hb⟩
                    have HS5 := Lib.hid (HS4.out.next hb)
                    replace HM := Lib.hid (HM.out.next L hb)
                    replace HX := Lib.hid (RowN.below HX.out hb)
                    replace HEX := Lib.hid (HEX.out.below hb)
                    replace HY := Lib.hid (RowN.below HY.out hb)
                    replace HEY := Lib.hid (HEY.out.below hb)
                    clear hb
                    go_wp2_with fail
                    refine (code_er _ _ _ HEY.out HS5.out.et).mono ?_
                    rintro e w6 ⟨rfl, hb⟩
                    have HS6 := Lib.hid (HS5.out.next hb)
                    replace HM := Lib.hid (HM.out.next L hb)
                    replace HX := Lib.hid (RowN.below HX.out hb)
                    replace HEX := Lib.hid (HEX.out.below hb)
                    replace HY := Lib.hid (RowN.below HY.out hb)
                    replace HEY := Lib.hid (HEY.out.below hb)
                    clear hb
                    go_wp2_with fail
                    refine (same9 _ _ _ _ _ _ _ HX.out HY.out HXL.out).mono ?_
                    rintro e w7 ⟨rfl, hb⟩
                    rw [if_pos rfl]
                    have HS7 := Lib.hid (HS6.out.next hb)
                    replace HM := Lib.hid (HM.out.next L hb)
                    replace HX := Lib.hid (RowN.below HX.out hb)
                    replace HEX := Lib.hid (HEX.out.below hb)
                    replace HY := Lib.hid (RowN.below HY.out hb)
                    replace HEY := Lib.hid (HEY.out.below hb)
                    clear hb
                    go_wp2
                    go_ret
                    exact ⟨by first | rfl | simp, HS7.out.below⟩
          · have hR2 := decide_eq_false hr2
            have HNR := Lib.hid (show ¬ (RightL lo ∧ RightL hi) from fun h => hr2 h.2)
            clear hr2
            go_enter Tryd.func3, Tryd.ntmps3
            go_wp2_with fail
            refine (awake16 L _ HS0.out.et).mono ?_
            rintro e w1 ⟨rfl, hb⟩
            have HS1 := Lib.hid (HS0.out.next hb)
            replace HA := Lib.hid (RowN.below HA.out hb)
            replace HB := Lib.hid (RowN.below HB.out hb)
            clear hb
            go_wp2_with fail
            refine (size9 lo a ca _ HA.out).mono ?_
            rintro e w9 ⟨rfl, rfl⟩
            rw [hF1]
            go_wp2_with fail
            refine (size9 hi b cb _ HB.out).mono ?_
            rintro e w9 ⟨rfl, rfl⟩
            rw [hF2]
            go_wp2_with fail
            refine (beginBad L lo hi a b ca cb bt HS1.out HA.out HB.out HSMA.out HSMB.out HNR.out).mono ?_
            rintro e w2 ⟨eB, rfl, e9, hb⟩
            have HEB := Lib.hid e9
            clear e9
            have HS2 := Lib.hid (HS1.out.next hb)
            replace HA := Lib.hid (RowN.below HA.out hb)
            replace HB := Lib.hid (RowN.below HB.out hb)
            clear hb
            go_wp2_with fail
            refine (LR lo a ca _ HS2.out.et HA.out HSMA.out).mono ?_
            rintro e w3 ⟨rfl, hb⟩
            rw [hR1]
            have HS3 := Lib.hid (HS2.out.next hb)
            replace HA := Lib.hid (RowN.below HA.out hb)
            replace HB := Lib.hid (RowN.below HB.out hb)
            replace HEB := Lib.hid (HEB.out.below hb)
            clear hb
            go_wp2_with fail
            refine (LR hi b cb _ HS3.out.et HB.out HSMB.out).mono ?_
            rintro e w4 ⟨rfl, hb⟩
            rw [hR2]
            have HS4 := Lib.hid (HS3.out.next hb)
            replace HA := Lib.hid (RowN.below HA.out hb)
            replace HB := Lib.hid (RowN.below HB.out hb)
            replace HEB := Lib.hid (HEB.out.below hb)
            clear hb
            go_wp2_with fail
            refine (code_er _ _ _ HEB.out HS4.out.et).mono ?_
            rintro e w5 ⟨rfl, hb⟩
            have HS5 := Lib.hid (HS4.out.next hb)
            replace HA := Lib.hid (RowN.below HA.out hb)
            replace HB := Lib.hid (RowN.below HB.out hb)
            replace HEB := Lib.hid (HEB.out.below hb)
            clear hb
            go_wp2
            go_ret
            exact ⟨by first | rfl | simp, HS5.out.below⟩
        · have hR1 := decide_eq_false hr1
          have HNR := Lib.hid (show ¬ (RightL lo ∧ RightL hi) from fun h => hr1 h.1)
          clear hr1
          go_enter Tryd.func3, Tryd.ntmps3
          go_wp2_with fail
          refine (awake16 L _ HS0.out.et).mono ?_
          rintro e w1 ⟨rfl, hb⟩
          have HS1 := Lib.hid (HS0.out.next hb)
          replace HA := Lib.hid (RowN.below HA.out hb)
          replace HB := Lib.hid (RowN.below HB.out hb)
          clear hb
          go_wp2_with fail
          refine (size9 lo a ca _ HA.out).mono ?_
          rintro e w9 ⟨rfl, rfl⟩
          rw [hF1]
          go_wp2_with fail
          refine (size9 hi b cb _ HB.out).mono ?_
          rintro e w9 ⟨rfl, rfl⟩
          rw [hF2]
          go_wp2_with fail
          refine (beginBad L lo hi a b ca cb bt HS1.out HA.out HB.out HSMA.out HSMB.out HNR.out).mono ?_
          rintro e w2 ⟨eB, rfl, e9, hb⟩
          have HEB := Lib.hid e9
          clear e9
          have HS2 := Lib.hid (HS1.out.next hb)
          replace HA := Lib.hid (RowN.below HA.out hb)
          replace HB := Lib.hid (RowN.below HB.out hb)
          clear hb
          go_wp2_with fail
          refine (LR lo a ca _ HS2.out.et HA.out HSMA.out).mono ?_
          rintro e w3 ⟨rfl, hb⟩
          rw [hR1]
          have HS3 := Lib.hid (HS2.out.next hb)
          replace HA := Lib.hid (RowN.below HA.out hb)
          replace HB := Lib.hid (RowN.below HB.out hb)
          replace HEB := Lib.hid (HEB.out.below hb)
          clear hb
          go_wp2_with fail
          refine (code_er _ _ _ HEB.out HS3.out.et).mono ?_
          rintro e w4 ⟨rfl, hb⟩
          have HS4 := Lib.hid (HS3.out.next hb)
          replace HA := Lib.hid (RowN.below HA.out hb)
          replace HB := Lib.hid (RowN.below HB.out hb)
          replace HEB := Lib.hid (HEB.out.below hb)
          clear hb
          go_wp2
          go_ret
          exact ⟨by first | rfl | simp, HS4.out.below⟩
    · have hF2 : (if SizeOK hi then (1 : Int) else 0) = 0 := if_neg hf2
      clear hf2
      clear hf1
      go_enter Tryd.func3, Tryd.ntmps3
      go_wp2_with fail
      refine (awake16 L _ HS0.out.et).mono ?_
      rintro e w1 ⟨rfl, hb⟩
      have HS1 := Lib.hid (HS0.out.next hb)
      replace HA := Lib.hid (RowN.below HA.out hb)
      replace HB := Lib.hid (RowN.below HB.out hb)
      clear hb
      go_wp2_with fail
      refine (size9 lo a ca _ HA.out).mono ?_
      rintro e w9 ⟨rfl, rfl⟩
      rw [hF1]
      go_wp2_with fail
      refine (size9 hi b cb _ HB.out).mono ?_
      rintro e w9 ⟨rfl, rfl⟩
      rw [hF2]
      go_wp2_with fail
      refine (awake16 L _ HS1.out.et).mono ?_
      rintro e w2 ⟨rfl, hb⟩
      have HS2 := Lib.hid (HS1.out.next hb)
      replace HA := Lib.hid (RowN.below HA.out hb)
      replace HB := Lib.hid (RowN.below HB.out hb)
      clear hb
      go_wp2
      go_ret
      exact ⟨by first | rfl | simp, HS2.out.below⟩
  · have hF1 : (if SizeOK lo then (1 : Int) else 0) = 0 := if_neg hf1
    clear hf1
    go_enter Tryd.func3, Tryd.ntmps3
    go_wp2_with fail
    refine (awake16 L _ HS0.out.et).mono ?_
    rintro e w1 ⟨rfl, hb⟩
    have HS1 := Lib.hid (HS0.out.next hb)
    replace HA := Lib.hid (RowN.below HA.out hb)
    replace HB := Lib.hid (RowN.below HB.out hb)
    clear hb
    go_wp2_with fail
    refine (size9 lo a ca _ HA.out).mono ?_
    rintro e w9 ⟨rfl, rfl⟩
    rw [hF1]
    go_wp2_with fail
    refine (awake16 L _ HS1.out.et).mono ?_
    rintro e w2 ⟨rfl, hb⟩
    have HS2 := Lib.hid (HS1.out.next hb)
    replace HA := Lib.hid (RowN.below HA.out hb)
    replace HB := Lib.hid (RowN.below HB.out hb)
    clear hb
    go_wp2
    go_ret
    exact ⟨by first | rfl | simp, HS2.out.below⟩
end Go.Proofs.YtlnjbadbpddlmaaDoor
