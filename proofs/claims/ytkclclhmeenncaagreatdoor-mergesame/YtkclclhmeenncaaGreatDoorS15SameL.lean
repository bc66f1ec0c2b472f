/-
  The law MergeSame walked over Two15, Bot15, Right15, Tree15, Stack15: for every two layers it returns true and changes nothing that was there. Conditions: packages merge, layer and fold answer as these say; the layers lie in memory; errorType holds error's type.
-/
import Derived.Test.YtkclclhmeenncaaGreatDoorS15Awake
import Derived.Test.YtkclclhmeenncaaGreatDoorS15Laws
import Derived.Test.YtkclclhmeenncaaGreatDoorS15Lit
import Derived.Test.YtkclclhmeenncaaGreatDoorPc
import Derived.IntWalk
namespace Go.Proofs.YtkclclhmeenncaaGreatDoor
open Go.RowKit

set_option maxRecDepth 10000 in
set_option maxHeartbeats 8000000 in
theorem lawSame15 (L2 : Two15) (LB : Bot15) (LR : Right15) (LT : Tree15) (LS : Stack15) (l high : List Ent) (a : Option Addr) (ca : Nat) (b : Option Addr) (cb : Nat) (W : World) (hg : EtLaid W) (ha : Ents W a ca l) (hb0 : Ents W b cb high) : Calls Tryz.prog 5 #[.slice a l.length ca, .slice b high.length cb] W fun e w' => e = .returned (.bool true) ∧ Below W.heap.size W w' := by
  have HS0 := Lib.hid (st_self hg)
  have HA := Lib.hid ha
  have HB := Lib.hid hb0
  clear hg ha hb0
  by_cases hz1 : SizeOK l
  · have hF1 : (if SizeOK l then (1 : Int) else 0) = 1 := if_pos hz1
    have HSMA := Lib.hid (sm_size hz1)
    clear hz1
    by_cases hz2 : SizeOK high
    · have hF2 : (if SizeOK high then (1 : Int) else 0) = 1 := if_pos hz2
      have HSMB := Lib.hid (sm_size hz2)
      clear hz2
      by_cases hr1 : RightL l
      · have hR1 := decide_eq_true hr1
        by_cases hr2 : RightL high
        · have hR2 := decide_eq_true hr2
          by_cases h64 : (64 : Int) < (l.length : Int) + (high.length : Int)
          · have hwl : IntKind.i64.wrap ((l.length : Int) + (high.length : Int)) = (l.length : Int) + (high.length : Int) := IntWalk.i64_in _ (by have := hr1.1; have := hr2.1; omega)
            clear hr1 hr2
            go_enter Tryz.func5, Tryz.ntmps5
            go_wp2_with fail
            refine (awake15 L2 _ HS0.out.et).mono ?_
            rintro e w1 ⟨rfl, hb⟩
            have HS1 := Lib.hid (HS0.out.next hb)
            replace HA := Lib.hid (RowN.below HA.out hb)
            replace HB := Lib.hid (RowN.below HB.out hb)
            clear hb
            go_wp2_with fail
            refine (size9 l a ca _ HA.out).mono ?_
            rintro e w9 ⟨rfl, rfl⟩
            rw [hF1]
            go_wp2_with fail
            refine (size9 high b cb _ HB.out).mono ?_
            rintro e w9 ⟨rfl, rfl⟩
            rw [hF2]
            go_wp2_with fail
            refine (LR l a ca _ HS1.out.et HA.out HSMA.out).mono ?_
            rintro e w2 ⟨rfl, hb⟩
            rw [hR1]
            have HS2 := Lib.hid (HS1.out.next hb)
            replace HA := Lib.hid (RowN.below HA.out hb)
            replace HB := Lib.hid (RowN.below HB.out hb)
            clear hb
            go_wp2_with fail
            refine (LR high b cb _ HS2.out.et HB.out HSMB.out).mono ?_
            rintro e w3 ⟨rfl, hb⟩
            rw [hR2]
            have HS3 := Lib.hid (HS2.out.next hb)
            replace HA := Lib.hid (RowN.below HA.out hb)
            replace HB := Lib.hid (RowN.below HB.out hb)
            clear hb
            go_wp2_with fail
            refine (awake15 L2 _ HS3.out.et).mono ?_
            rintro e w4 ⟨rfl, hb⟩
            have HS4 := Lib.hid (HS3.out.next hb)
            replace HA := Lib.hid (RowN.below HA.out hb)
            replace HB := Lib.hid (RowN.below HB.out hb)
            clear hb
            go_wp2
            go_ret
            exact ⟨by first | rfl | simp, HS4.out.below⟩
          · have hn : l.length + high.length ≤ 64 := by omega
            have HSA := Lib.hid (same15 hr1)
            have HBT := Lib.hid (bottom15 hr1 hr2 (by omega))
            have H1 : Hid (∀ w, EtLaid w → Ents w a ca l → Ents w a ca l → Calls Tryz.prog 9 #[.slice a l.length ca, .slice a l.length ca, .bool false] w fun e w' => ∃ a' c' er, e = .returned (.tuple #[.slice a' (mrg l l).length c', er]) ∧ Ents w' a' c' (mrg l l) ∧ Er w' 0 er ∧ Below w.heap.size w w') := fun w h1 h2 h3 => by
              have := L2 l a ca l a ca false w h1 h2 h3 HSMA.out HSMA.out
              rwa [HSA.out.1] at this
            have H2 : Hid (∀ w, EtLaid w → Ents w a ca l → Ents w b cb high → Calls Tryz.prog 9 #[.slice a l.length ca, .slice b high.length cb, .bool true] w fun e w' => ∃ a' c' er, e = .returned (.tuple #[.slice a' (two15 l high true).length c', er]) ∧ Ents w' a' c' (two15 l high true) ∧ Er w' 0 er ∧ Below w.heap.size w w') := fun w h1 h2 h3 => by
              have := L2 l a ca high b cb true w h1 h2 h3 HSMA.out HSMB.out
              rwa [HBT.out.1] at this
            have HSMX := Lib.hid (show ∀ x ∈ [mrg l l], Sm x from fun x hx => by rw [List.mem_singleton.1 hx]; exact sm_right HSA.out.2.1)
            have HSML := Lib.hid (show ∀ x ∈ [l], Sm x from fun x hx => by rw [List.mem_singleton.1 hx]; exact HSMA.out)
            have HSMZ := Lib.hid (show ∀ x ∈ [l, high], Sm x from fun x hx => by
              rcases List.mem_cons.1 hx with rfl | hx
              · exact HSMA.out
              · rw [List.mem_singleton.1 hx]; exact HSMB.out)
            have HSMY := Lib.hid (sm_right HBT.out.2.1)
            have HFS := Lib.hid HSA.out.2.2
            have HML := Lib.hid (show (fsV [mrg l l]).length ≤ maxLen by
              have h9 := over_len (mrg l l) []
              have h8 := HSA.out.2.1.1
              unfold fsV
              split
              · show (over [] (mrg l l)).length ≤ maxLen
                unfold maxLen
                simp at h9
                omega
              · unfold maxLen; simp)
            have HML2 := Lib.hid (show (two15 l high true).length ≤ maxLen by have := HBT.out.2.1.1; unfold maxLen; omega)
            have HLN := Lib.hid (And.intro hr1.1 hr2.1)
            have hwl : IntKind.i64.wrap ((l.length : Int) + (high.length : Int)) = (l.length : Int) + (high.length : Int) := IntWalk.i64_in _ (by have := hr1.1; have := hr2.1; omega)
            clear hr1 hr2 hn
            go_enter Tryz.func5, Tryz.ntmps5
            go_wp2_with fail
            refine (awake15 L2 _ HS0.out.et).mono ?_
            rintro e w1 ⟨rfl, hb⟩
            have HS1 := Lib.hid (HS0.out.next hb)
            replace HA := Lib.hid (RowN.below HA.out hb)
            replace HB := Lib.hid (RowN.below HB.out hb)
            clear hb
            go_wp2_with fail
            refine (size9 l a ca _ HA.out).mono ?_
            rintro e w9 ⟨rfl, rfl⟩
            rw [hF1]
            go_wp2_with fail
            refine (size9 high b cb _ HB.out).mono ?_
            rintro e w9 ⟨rfl, rfl⟩
            rw [hF2]
            go_wp2_with fail
            refine (LR l a ca _ HS1.out.et HA.out HSMA.out).mono ?_
            rintro e w2 ⟨rfl, hb⟩
            rw [hR1]
            have HS2 := Lib.hid (HS1.out.next hb)
            replace HA := Lib.hid (RowN.below HA.out hb)
            replace HB := Lib.hid (RowN.below HB.out hb)
            clear hb
            go_wp2_with fail
            refine (LR high b cb _ HS2.out.et HB.out HSMB.out).mono ?_
            rintro e w3 ⟨rfl, hb⟩
            rw [hR2]
            have HS3 := Lib.hid (HS2.out.next hb)
            replace HA := Lib.hid (RowN.below HA.out hb)
            replace HB := Lib.hid (RowN.below HB.out hb)
            clear hb
            go_wp2_with fail
            refine (H1.out _ HS3.out.et HA.out HA.out).mono ?_
            rintro e w4 ⟨aX, cX, eX, rfl, h9, e9, hb⟩
            have HX := Lib.hid h9
            have HE1 := Lib.hid e9
            clear h9 e9
            have HS4 := Lib.hid (HS3.out.next hb)
            replace HA := Lib.hid (RowN.below HA.out hb)
            replace HB := Lib.hid (RowN.below HB.out hb)
            clear hb
            go_wp2_with fail
            refine (H2.out _ HS4.out.et HA.out HB.out).mono ?_
            rintro e w5 ⟨aY, cY, eY, rfl, h9, e9, hb⟩
            have HY := Lib.hid h9
            have HE2 := Lib.hid e9
            clear h9 e9
            have HS5 := Lib.hid (HS4.out.next hb)
            replace HA := Lib.hid (RowN.below HA.out hb)
            replace HB := Lib.hid (RowN.below HB.out hb)
            replace HX := Lib.hid (RowN.below HX.out hb)
            replace HE1 := Lib.hid (HE1.out.below hb)
            clear hb
            go_wp2_with fail
            refine (LB _ aY cY _ HS5.out.et HY.out HBT.out.2.1).mono ?_
            rintro e w6 ⟨aZ, cZ, rfl, h9, hb⟩
            rw [HBT.out.2.2.2.1] at h9 ⊢
            have HZ := Lib.hid h9
            clear h9
            have HS6 := Lib.hid (HS5.out.next hb)
            replace HA := Lib.hid (RowN.below HA.out hb)
            replace HB := Lib.hid (RowN.below HB.out hb)
            replace HX := Lib.hid (RowN.below HX.out hb)
            replace HE1 := Lib.hid (HE1.out.below hb)
            replace HY := Lib.hid (RowN.below HY.out hb)
            replace HE2 := Lib.hid (HE2.out.below hb)
            clear hb
            go_wp2_with fail
            refine (code_er _ _ _ HE1.out HS6.out.et).mono ?_
            rintro e w7 ⟨rfl, hb⟩
            have HS7 := Lib.hid (HS6.out.next hb)
            replace HA := Lib.hid (RowN.below HA.out hb)
            replace HB := Lib.hid (RowN.below HB.out hb)
            replace HX := Lib.hid (RowN.below HX.out hb)
            replace HE1 := Lib.hid (HE1.out.below hb)
            replace HY := Lib.hid (RowN.below HY.out hb)
            replace HE2 := Lib.hid (HE2.out.below hb)
            replace HZ := Lib.hid (RowN.below HZ.out hb)
            clear hb
            have hb : Below w7.heap.size w7 (w7.alloc (.cells #[.slice aX (mrg l l).length cX] 23)) := (Below.refl _ _).alloc (Nat.le_refl _) _
            have hk9 := lit15a w7 aX cX (mrg l l) HX.out
            obtain ⟨w8, hw8⟩ : ∃ v, w7.alloc (.cells #[.slice aX (mrg l l).length cX] 23) = v := ⟨_, rfl⟩
            obtain ⟨M7, hM7⟩ : ∃ M, w7.heap.size = M := ⟨_, rfl⟩
            rw [hw8] at hb hk9
            rw [hM7] at hk9
            have HL7 := Lib.hid hk9
            clear hk9
            have HS8 := Lib.hid (HS7.out.next hb)
            replace HA := Lib.hid (RowN.below HA.out hb)
            replace HB := Lib.hid (RowN.below HB.out hb)
            replace HX := Lib.hid (RowN.below HX.out hb)
            replace HE1 := Lib.hid (HE1.out.below hb)
            replace HY := Lib.hid (RowN.below HY.out hb)
            replace HE2 := Lib.hid (HE2.out.below hb)
            replace HZ := Lib.hid (RowN.below HZ.out hb)
            clear hb
            go_wp2_with fail
            refine (LS [mrg l l] _ 1 _ HS8.out.et HL7.out (by simp) HSMX.out).mono ?_
            rintro e w9 ⟨aP, cP, rfl, h9, hb⟩
            clear hw8 hM7
            have HP := Lib.hid h9
            clear h9
            have HS9 := Lib.hid (HS8.out.next hb)
            replace HA := Lib.hid (RowN.below HA.out hb)
            replace HB := Lib.hid (RowN.below HB.out hb)
            replace HX := Lib.hid (RowN.below HX.out hb)
            replace HE1 := Lib.hid (HE1.out.below hb)
            replace HY := Lib.hid (RowN.below HY.out hb)
            replace HE2 := Lib.hid (HE2.out.below hb)
            replace HZ := Lib.hid (RowN.below HZ.out hb)
            replace HL7 := Lib.hid (HL7.out.below hb)
            clear hb
            have hb : Below w9.heap.size w9 (w9.alloc (.cells #[.slice a l.length ca] 23)) := (Below.refl _ _).alloc (Nat.le_refl _) _
            have hk9 := lit15a w9 a ca l HA.out
            obtain ⟨w10, hw10⟩ : ∃ v, w9.alloc (.cells #[.slice a l.length ca] 23) = v := ⟨_, rfl⟩
            obtain ⟨M9, hM9⟩ : ∃ M, w9.heap.size = M := ⟨_, rfl⟩
            rw [hw10] at hb hk9
            rw [hM9] at hk9
            have HL9 := Lib.hid hk9
            clear hk9
            have HS10 := Lib.hid (HS9.out.next hb)
            replace HA := Lib.hid (RowN.below HA.out hb)
            replace HB := Lib.hid (RowN.below HB.out hb)
            replace HX := Lib.hid (RowN.below HX.out hb)
            replace HE1 := Lib.hid (HE1.out.below hb)
            replace HY := Lib.hid (RowN.below HY.out hb)
            replace HE2 := Lib.hid (HE2.out.below hb)
            replace HZ := Lib.hid (RowN.below HZ.out hb)
            replace HL7 := Lib.hid (HL7.out.below hb)
            replace HP := Lib.hid (RowN.below HP.out hb)
            clear hb
            go_wp2_with fail
            refine (LS [l] _ 1 _ HS10.out.et HL9.out (by simp) HSML.out).mono ?_
            rintro e w11 ⟨aQ, cQ, rfl, h9, hb⟩
            clear hw10 hM9
            have HQ := Lib.hid h9
            clear h9
            have HS11 := Lib.hid (HS10.out.next hb)
            replace HA := Lib.hid (RowN.below HA.out hb)
            replace HB := Lib.hid (RowN.below HB.out hb)
            replace HX := Lib.hid (RowN.below HX.out hb)
            replace HE1 := Lib.hid (HE1.out.below hb)
            replace HY := Lib.hid (RowN.below HY.out hb)
            replace HE2 := Lib.hid (HE2.out.below hb)
            replace HZ := Lib.hid (RowN.below HZ.out hb)
            replace HL7 := Lib.hid (HL7.out.below hb)
            replace HP := Lib.hid (RowN.below HP.out hb)
            replace HL9 := Lib.hid (HL9.out.below hb)
            clear hb
            go_wp2_with fail
            refine (same9 _ _ _ _ _ _ _ HP.out HQ.out HML.out).mono ?_
            rintro e w12 ⟨rfl, hb⟩
            rw [if_pos HFS.out]
            have HS12 := Lib.hid (HS11.out.next hb)
            replace HA := Lib.hid (RowN.below HA.out hb)
            replace HB := Lib.hid (RowN.below HB.out hb)
            replace HX := Lib.hid (RowN.below HX.out hb)
            replace HE1 := Lib.hid (HE1.out.below hb)
            replace HY := Lib.hid (RowN.below HY.out hb)
            replace HE2 := Lib.hid (HE2.out.below hb)
            replace HZ := Lib.hid (RowN.below HZ.out hb)
            replace HL7 := Lib.hid (HL7.out.below hb)
            replace HP := Lib.hid (RowN.below HP.out hb)
            replace HL9 := Lib.hid (HL9.out.below hb)
            replace HQ := Lib.hid (RowN.below HQ.out hb)
            clear hb
            go_wp2_with fail
            refine (code_er _ _ _ HE2.out HS12.out.et).mono ?_
            rintro e w13 ⟨rfl, hb⟩
            have HS13 := Lib.hid (HS12.out.next hb)
            replace HA := Lib.hid (RowN.below HA.out hb)
            replace HB := Lib.hid (RowN.below HB.out hb)
            replace HX := Lib.hid (RowN.below HX.out hb)
            replace HE1 := Lib.hid (HE1.out.below hb)
            replace HY := Lib.hid (RowN.below HY.out hb)
            replace HE2 := Lib.hid (HE2.out.below hb)
            replace HZ := Lib.hid (RowN.below HZ.out hb)
            replace HL7 := Lib.hid (HL7.out.below hb)
            replace HP := Lib.hid (RowN.below HP.out hb)
            replace HL9 := Lib.hid (HL9.out.below hb)
            replace HQ := Lib.hid (RowN.below HQ.out hb)
            clear hb
            go_wp2_with fail
            refine (LT _ aY cY _ HS13.out.et HY.out HSMY.out).mono ?_
            rintro e w14 ⟨rfl, hb⟩
            rw [decide_eq_true HBT.out.2.2.1]
            have HS14 := Lib.hid (HS13.out.next hb)
            replace HA := Lib.hid (RowN.below HA.out hb)
            replace HB := Lib.hid (RowN.below HB.out hb)
            replace HX := Lib.hid (RowN.below HX.out hb)
            replace HE1 := Lib.hid (HE1.out.below hb)
            replace HY := Lib.hid (RowN.below HY.out hb)
            replace HE2 := Lib.hid (HE2.out.below hb)
            replace HZ := Lib.hid (RowN.below HZ.out hb)
            replace HL7 := Lib.hid (HL7.out.below hb)
            replace HP := Lib.hid (RowN.below HP.out hb)
            replace HL9 := Lib.hid (HL9.out.below hb)
            replace HQ := Lib.hid (RowN.below HQ.out hb)
            clear hb
            go_wp2_with fail
            refine (same9 _ _ _ _ _ _ _ HZ.out HY.out HML2.out).mono ?_
            rintro e w15 ⟨rfl, hb⟩
            rw [if_pos rfl]
            have HS15 := Lib.hid (HS14.out.next hb)
            replace HA := Lib.hid (RowN.below HA.out hb)
            replace HB := Lib.hid (RowN.below HB.out hb)
            replace HX := Lib.hid (RowN.below HX.out hb)
            replace HE1 := Lib.hid (HE1.out.below hb)
            replace HY := Lib.hid (RowN.below HY.out hb)
            replace HE2 := Lib.hid (HE2.out.below hb)
            replace HZ := Lib.hid (RowN.below HZ.out hb)
            replace HL7 := Lib.hid (HL7.out.below hb)
            replace HP := Lib.hid (RowN.below HP.out hb)
            replace HL9 := Lib.hid (HL9.out.below hb)
            replace HQ := Lib.hid (RowN.below HQ.out hb)
            clear hb
            have hb : Below w15.heap.size w15 (w15.alloc (.cells #[.slice a l.length ca, .slice b high.length cb] 23)) := (Below.refl _ _).alloc (Nat.le_refl _) _
            have hk9 := lit15b w15 a b ca cb l high HA.out HB.out
            obtain ⟨w16, hwz⟩ : ∃ v, w15.alloc (.cells #[.slice a l.length ca, .slice b high.length cb] 23) = v := ⟨_, rfl⟩
            obtain ⟨Mz, hMz⟩ : ∃ M, w15.heap.size = M := ⟨_, rfl⟩
            rw [hwz] at hb hk9
            rw [hMz] at hk9
            have HLz := Lib.hid hk9
            clear hk9
            have HS16 := Lib.hid (HS15.out.next hb)
            replace HA := Lib.hid (RowN.below HA.out hb)
            replace HB := Lib.hid (RowN.below HB.out hb)
            replace HX := Lib.hid (RowN.below HX.out hb)
            replace HE1 := Lib.hid (HE1.out.below hb)
            replace HY := Lib.hid (RowN.below HY.out hb)
            replace HE2 := Lib.hid (HE2.out.below hb)
            replace HZ := Lib.hid (RowN.below HZ.out hb)
            replace HL7 := Lib.hid (HL7.out.below hb)
            replace HP := Lib.hid (RowN.below HP.out hb)
            replace HL9 := Lib.hid (HL9.out.below hb)
            replace HQ := Lib.hid (RowN.below HQ.out hb)
            clear hb
            go_wp2_with fail
            refine (LS [l, high] _ 2 _ HS16.out.et HLz.out (by simp) HSMZ.out).mono ?_
            rintro e w17 ⟨aR, cR, rfl, h9, hb⟩
            rw [HBT.out.2.2.2.2] at h9 ⊢
            clear hwz hMz
            have HR := Lib.hid h9
            clear h9
            have HS17 := Lib.hid (HS16.out.next hb)
            replace HA := Lib.hid (RowN.below HA.out hb)
            replace HB := Lib.hid (RowN.below HB.out hb)
            replace HX := Lib.hid (RowN.below HX.out hb)
            replace HE1 := Lib.hid (HE1.out.below hb)
            replace HY := Lib.hid (RowN.below HY.out hb)
            replace HE2 := Lib.hid (HE2.out.below hb)
            replace HZ := Lib.hid (RowN.below HZ.out hb)
            replace HL7 := Lib.hid (HL7.out.below hb)
            replace HP := Lib.hid (RowN.below HP.out hb)
            replace HL9 := Lib.hid (HL9.out.below hb)
            replace HQ := Lib.hid (RowN.below HQ.out hb)
            replace HLz := Lib.hid (HLz.out.below hb)
            clear hb
            go_wp2_with fail
            refine (same9 _ _ _ _ _ _ _ HR.out HY.out HML2.out).mono ?_
            rintro e w18 ⟨rfl, hb⟩
            rw [if_pos rfl]
            have HS18 := Lib.hid (HS17.out.next hb)
            replace HA := Lib.hid (RowN.below HA.out hb)
            replace HB := Lib.hid (RowN.below HB.out hb)
            replace HX := Lib.hid (RowN.below HX.out hb)
            replace HE1 := Lib.hid (HE1.out.below hb)
            replace HY := Lib.hid (RowN.below HY.out hb)
            replace HE2 := Lib.hid (HE2.out.below hb)
            replace HZ := Lib.hid (RowN.below HZ.out hb)
            replace HL7 := Lib.hid (HL7.out.below hb)
            replace HP := Lib.hid (RowN.below HP.out hb)
            replace HL9 := Lib.hid (HL9.out.below hb)
            replace HQ := Lib.hid (RowN.below HQ.out hb)
            replace HLz := Lib.hid (HLz.out.below hb)
            replace HR := Lib.hid (RowN.below HR.out hb)
            clear hb
            go_wp2
            go_ret
            exact ⟨by first | rfl | simp, HS18.out.below⟩
        · have hR2 := decide_eq_false hr2
          clear hr1 hr2
          go_enter Tryz.func5, Tryz.ntmps5
          go_wp2_with fail
          refine (awake15 L2 _ HS0.out.et).mono ?_
          rintro e w1 ⟨rfl, hb⟩
          have HS1 := Lib.hid (HS0.out.next hb)
          replace HA := Lib.hid (RowN.below HA.out hb)
          replace HB := Lib.hid (RowN.below HB.out hb)
          clear hb
          go_wp2_with fail
          refine (size9 l a ca _ HA.out).mono ?_
          rintro e w9 ⟨rfl, rfl⟩
          rw [hF1]
          go_wp2_with fail
          refine (size9 high b cb _ HB.out).mono ?_
          rintro e w9 ⟨rfl, rfl⟩
          rw [hF2]
          go_wp2_with fail
          refine (LR l a ca _ HS1.out.et HA.out HSMA.out).mono ?_
          rintro e w2 ⟨rfl, hb⟩
          rw [hR1]
          have HS2 := Lib.hid (HS1.out.next hb)
          replace HA := Lib.hid (RowN.below HA.out hb)
          replace HB := Lib.hid (RowN.below HB.out hb)
          clear hb
          go_wp2_with fail
          refine (LR high b cb _ HS2.out.et HB.out HSMB.out).mono ?_
          rintro e w3 ⟨rfl, hb⟩
          rw [hR2]
          have HS3 := Lib.hid (HS2.out.next hb)
          replace HA := Lib.hid (RowN.below HA.out hb)
          replace HB := Lib.hid (RowN.below HB.out hb)
          clear hb
          go_wp2_with fail
          refine (awake15 L2 _ HS3.out.et).mono ?_
          rintro e w4 ⟨rfl, hb⟩
          have HS4 := Lib.hid (HS3.out.next hb)
          replace HA := Lib.hid (RowN.below HA.out hb)
          replace HB := Lib.hid (RowN.below HB.out hb)
          clear hb
          go_wp2
          go_ret
          exact ⟨by first | rfl | simp, HS4.out.below⟩
      · have hR1 := decide_eq_false hr1
        clear hr1
        go_enter Tryz.func5, Tryz.ntmps5
        go_wp2_with fail
        refine (awake15 L2 _ HS0.out.et).mono ?_
        rintro e w1 ⟨rfl, hb⟩
        have HS1 := Lib.hid (HS0.out.next hb)
        replace HA := Lib.hid (RowN.below HA.out hb)
        replace HB := Lib.hid (RowN.below HB.out hb)
        clear hb
        go_wp2_with fail
        refine (size9 l a ca _ HA.out).mono ?_
        rintro e w9 ⟨rfl, rfl⟩
        rw [hF1]
        go_wp2_with fail
        refine (size9 high b cb _ HB.out).mono ?_
        rintro e w9 ⟨rfl, rfl⟩
        rw [hF2]
        go_wp2_with fail
        refine (LR l a ca _ HS1.out.et HA.out HSMA.out).mono ?_
        rintro e w2 ⟨rfl, hb⟩
        rw [hR1]
        have HS2 := Lib.hid (HS1.out.next hb)
        replace HA := Lib.hid (RowN.below HA.out hb)
        replace HB := Lib.hid (RowN.below HB.out hb)
        clear hb
        go_wp2_with fail
        refine (awake15 L2 _ HS2.out.et).mono ?_
        rintro e w3 ⟨rfl, hb⟩
        have HS3 := Lib.hid (HS2.out.next hb)
        replace HA := Lib.hid (RowN.below HA.out hb)
        replace HB := Lib.hid (RowN.below HB.out hb)
        clear hb
        go_wp2
        go_ret
        exact ⟨by first | rfl | simp, HS3.out.below⟩
    · have hF2 : (if SizeOK high then (1 : Int) else 0) = 0 := if_neg hz2
      clear hz2
      go_enter Tryz.func5, Tryz.ntmps5
      go_wp2_with fail
      refine (awake15 L2 _ HS0.out.et).mono ?_
      rintro e w1 ⟨rfl, hb⟩
      have HS1 := Lib.hid (HS0.out.next hb)
      replace HA := Lib.hid (RowN.below HA.out hb)
      replace HB := Lib.hid (RowN.below HB.out hb)
      clear hb
      go_wp2_with fail
      refine (size9 l a ca _ HA.out).mono ?_
      rintro e w9 ⟨rfl, rfl⟩
      rw [hF1]
      go_wp2_with fail
      refine (size9 high b cb _ HB.out).mono ?_
      rintro e w9 ⟨rfl, rfl⟩
      rw [hF2]
      go_wp2_with fail
      refine (awake15 L2 _ HS1.out.et).mono ?_
      rintro e w2 ⟨rfl, hb⟩
      have HS2 := Lib.hid (HS1.out.next hb)
      replace HA := Lib.hid (RowN.below HA.out hb)
      replace HB := Lib.hid (RowN.below HB.out hb)
      clear hb
      go_wp2
      go_ret
      exact ⟨by first | rfl | simp, HS2.out.below⟩
  · have hF1 : (if SizeOK l then (1 : Int) else 0) = 0 := if_neg hz1
    clear hz1
    go_enter Tryz.func5, Tryz.ntmps5
    go_wp2_with fail
    refine (awake15 L2 _ HS0.out.et).mono ?_
    rintro e w1 ⟨rfl, hb⟩
    have HS1 := Lib.hid (HS0.out.next hb)
    replace HA := Lib.hid (RowN.below HA.out hb)
    replace HB := Lib.hid (RowN.below HB.out hb)
    clear hb
    go_wp2_with fail
    refine (size9 l a ca _ HA.out).mono ?_
    rintro e w9 ⟨rfl, rfl⟩
    rw [hF1]
    go_wp2_with fail
    refine (awake15 L2 _ HS1.out.et).mono ?_
    rintro e w2 ⟨rfl, hb⟩
    have HS2 := Lib.hid (HS1.out.next hb)
    replace HA := Lib.hid (RowN.below HA.out hb)
    replace HB := Lib.hid (RowN.below HB.out hb)
    clear hb
    go_wp2
    go_ret
    exact ⟨by first | rfl | simp, HS2.out.below⟩
end Go.Proofs.YtkclclhmeenncaaGreatDoor
