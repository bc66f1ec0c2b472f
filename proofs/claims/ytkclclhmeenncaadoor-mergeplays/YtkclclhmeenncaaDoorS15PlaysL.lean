/-
  The law MergePlays walked over Two15, Right15 and the document's own answer (RefTwo15): for every two layers it returns true and changes nothing that was there. Conditions: packages merge and layer answer as these say; the layers lie in memory; errorType holds error's type.
-/
import Derived.Test.YtkclclhmeenncaaDoorS15Awake
import Derived.Test.YtkclclhmeenncaaDoorS15Laws
import Derived.Test.YtkclclhmeenncaaDoorPc
import Derived.Test.YtkclclhmeenncaaDoorS9RefR
namespace Go.Proofs.YtkclclhmeenncaaDoor
open Go.RowKit

/-- The document's own Two. -/
def RefTwo15 : Prop := ∀ low a ca high b cb (bot : Bool) w, Ents w a ca low → Ents w b cb high → RightL low → RightL high → Calls Tryd.prog 9 #[.slice a low.length ca, .slice b high.length cb, .bool bot] w fun e w' => ∃ a' c', e = .returned (.slice a' (two15 low high bot).length c') ∧ Ents w' a' c' (two15 low high bot) ∧ Below w.heap.size w w'
set_option maxRecDepth 10000 in
set_option maxHeartbeats 8000000 in
theorem lawPlays15 (L2 : Two15) (LR : Right15) (RT : RefTwo15) (low high : List Ent) (bot : Bool) (a : Option Addr) (ca : Nat) (b : Option Addr) (cb : Nat) (W : World) (hg : EtLaid W) (ha : Ents W a ca low) (hb0 : Ents W b cb high) : Calls Tryd.prog 3 #[.slice a low.length ca, .slice b high.length cb, .bool bot] W fun e w' => e = .returned (.bool true) ∧ Below W.heap.size W w' := by
  have HS0 := Lib.hid (st_self hg)
  have HA := Lib.hid ha
  have HB := Lib.hid hb0
  clear hg ha hb0
  by_cases hz1 : SizeOK low
  · have hF1 : (if SizeOK low then (1 : Int) else 0) = 1 := if_pos hz1
    by_cases hz2 : SizeOK high
    · have hF2 : (if SizeOK high then (1 : Int) else 0) = 1 := if_pos hz2
      have HSMA := Lib.hid (sm_size hz1)
      have HSMB := Lib.hid (sm_size hz2)
      clear hz1 hz2
      by_cases hr1 : RightL low
      · have hR1 := decide_eq_true hr1
        by_cases hr2 : RightL high
        · have hR2 := decide_eq_true hr2
          have HRR := Lib.hid (And.intro hr1 hr2)
          obtain ⟨T, hT⟩ : ∃ T, two15 low high bot = T := ⟨_, rfl⟩
          by_cases h64 : 64 < T.length
          · have g64 : (64 : Int) < (T.length : Int) := by omega
            have H1 : Hid (∀ w, EtLaid w → Ents w a ca low → Ents w b cb high → Calls Tryd.prog 6 #[.slice a low.length ca, .slice b high.length cb, .bool bot] w fun e w' => ∃ a' c' er, e = .returned (.tuple #[.slice a' (List.length (α := Ent) []) c', er]) ∧ Ents w' a' c' [] ∧ Er w' 9 er ∧ Below w.heap.size w w') := fun w h1 h2 h3 => by
              have := L2 low a ca high b cb bot w h1 h2 h3 HSMA.out HSMB.out
              rwa [tw_full hr1 hr2 (by rw [hT]; exact h64)] at this
            clear hr1 hr2 h64
            go_enter Tryd.func3, Tryd.ntmps3
            go_wp2_with fail
            refine (awake15 L2 _ HS0.out.et).mono ?_
            rintro e w1 ⟨rfl, hb⟩
            have HS1 := Lib.hid (HS0.out.next hb)
            replace HA := Lib.hid (RowN.below HA.out hb)
            replace HB := Lib.hid (RowN.below HB.out hb)
            clear hb
            go_wp2_with fail
            refine (size9 low a ca _ HA.out).mono ?_
            rintro e w9 ⟨rfl, rfl⟩
            rw [hF1]
            go_wp2_with fail
            refine (size9 high b cb _ HB.out).mono ?_
            rintro e w9 ⟨rfl, rfl⟩
            rw [hF2]
            go_wp2_with fail
            refine (H1.out _ HS1.out.et HA.out HB.out).mono ?_
            rintro e w2 ⟨aX, cX, eX, rfl, h9, e9, hb⟩
            have HX := Lib.hid h9
            have HEX := Lib.hid e9
            clear h9 e9
            have HS2 := Lib.hid (HS1.out.next hb)
            replace HA := Lib.hid (RowN.below HA.out hb)
            replace HB := Lib.hid (RowN.below HB.out hb)
            clear hb
            go_wp2_with fail
            refine (refRight9 low a ca _ HA.out (by have := HSMA.out.1; omega) (fun e he => (HSMA.out.2 e he).1)).mono ?_
            rintro e w3 ⟨rfl, hb⟩
            rw [hR1]
            have HS3 := Lib.hid (HS2.out.next hb)
            replace HA := Lib.hid (RowN.below HA.out hb)
            replace HB := Lib.hid (RowN.below HB.out hb)
            replace HX := Lib.hid (RowN.below HX.out hb)
            replace HEX := Lib.hid (HEX.out.below hb)
            clear hb
            go_wp2_with fail
            refine (refRight9 high b cb _ HB.out (by have := HSMB.out.1; omega) (fun e he => (HSMB.out.2 e he).1)).mono ?_
            rintro e w4 ⟨rfl, hb⟩
            rw [hR2]
            have HS4 := Lib.hid (HS3.out.next hb)
            replace HA := Lib.hid (RowN.below HA.out hb)
            replace HB := Lib.hid (RowN.below HB.out hb)
            replace HX := Lib.hid (RowN.below HX.out hb)
            replace HEX := Lib.hid (HEX.out.below hb)
            clear hb
            go_wp2_with fail
            refine (RT low a ca high b cb bot _ HA.out HB.out HRR.out.1 HRR.out.2).mono ?_
            rintro e w5 ⟨aY, cY, rfl, h9, hb⟩
            rw [hT] at h9 ⊢
            have HY := Lib.hid h9
            clear h9
            have HS5 := Lib.hid (HS4.out.next hb)
            replace HA := Lib.hid (RowN.below HA.out hb)
            replace HB := Lib.hid (RowN.below HB.out hb)
            replace HX := Lib.hid (RowN.below HX.out hb)
            replace HEX := Lib.hid (HEX.out.below hb)
            clear hb
            go_wp2_with fail
            refine (code_er _ _ _ HEX.out HS5.out.et).mono ?_
            rintro e w6 ⟨rfl, hb⟩
            have HS6 := Lib.hid (HS5.out.next hb)
            replace HA := Lib.hid (RowN.below HA.out hb)
            replace HB := Lib.hid (RowN.below HB.out hb)
            replace HX := Lib.hid (RowN.below HX.out hb)
            replace HEX := Lib.hid (HEX.out.below hb)
            replace HY := Lib.hid (RowN.below HY.out hb)
            clear hb
            go_wp2
            go_ret
            exact ⟨by first | rfl | simp, HS6.out.below⟩
          · have g64 : ¬ (64 : Int) < (T.length : Int) := by omega
            have HTR := Lib.hid (show RightL T from ⟨by omega, by rw [← hT]; exact rl_two hr1.2 hr2.2 bot⟩)
            have HSMT := Lib.hid (sm_right HTR.out)
            have HML := Lib.hid (show T.length ≤ maxLen by unfold maxLen; omega)
            have H1 : Hid (∀ w, EtLaid w → Ents w a ca low → Ents w b cb high → Calls Tryd.prog 6 #[.slice a low.length ca, .slice b high.length cb, .bool bot] w fun e w' => ∃ a' c' er, e = .returned (.tuple #[.slice a' (List.length (α := Ent) T) c', er]) ∧ Ents w' a' c' T ∧ Er w' 0 er ∧ Below w.heap.size w w') := fun w h1 h2 h3 => by
              have := L2 low a ca high b cb bot w h1 h2 h3 HSMA.out HSMB.out
              rwa [tw_ok hr1 hr2 (by rw [hT]; omega), hT] at this
            clear hr1 hr2 h64
            go_enter Tryd.func3, Tryd.ntmps3
            go_wp2_with fail
            refine (awake15 L2 _ HS0.out.et).mono ?_
            rintro e w1 ⟨rfl, hb⟩
            have HS1 := Lib.hid (HS0.out.next hb)
            replace HA := Lib.hid (RowN.below HA.out hb)
            replace HB := Lib.hid (RowN.below HB.out hb)
            clear hb
            go_wp2_with fail
            refine (size9 low a ca _ HA.out).mono ?_
            rintro e w9 ⟨rfl, rfl⟩
            rw [hF1]
            go_wp2_with fail
            refine (size9 high b cb _ HB.out).mono ?_
            rintro e w9 ⟨rfl, rfl⟩
            rw [hF2]
            go_wp2_with fail
            refine (H1.out _ HS1.out.et HA.out HB.out).mono ?_
            rintro e w2 ⟨aX, cX, eX, rfl, h9, e9, hb⟩
            have HX := Lib.hid h9
            have HEX := Lib.hid e9
            clear h9 e9
            have HS2 := Lib.hid (HS1.out.next hb)
            replace HA := Lib.hid (RowN.below HA.out hb)
            replace HB := Lib.hid (RowN.below HB.out hb)
            clear hb
            go_wp2_with fail
            refine (refRight9 low a ca _ HA.out (by have := HSMA.out.1; omega) (fun e he => (HSMA.out.2 e he).1)).mono ?_
            rintro e w3 ⟨rfl, hb⟩
            rw [hR1]
            have HS3 := Lib.hid (HS2.out.next hb)
            replace HA := Lib.hid (RowN.below HA.out hb)
            replace HB := Lib.hid (RowN.below HB.out hb)
            replace HX := Lib.hid (RowN.below HX.out hb)
            replace HEX := Lib.hid (HEX.out.below hb)
            clear hb
            go_wp2_with fail
            refine (refRight9 high b cb _ HB.out (by have := HSMB.out.1; omega) (fun e he => (HSMB.out.2 e he).1)).mono ?_
            rintro e w4 ⟨rfl, hb⟩
            rw [hR2]
            have HS4 := Lib.hid (HS3.out.next hb)
            replace HA := Lib.hid (RowN.below HA.out hb)
            replace HB := Lib.hid (RowN.below HB.out hb)
            replace HX := Lib.hid (RowN.below HX.out hb)
            replace HEX := Lib.hid (HEX.out.below hb)
            clear hb
            go_wp2_with fail
            refine (RT low a ca high b cb bot _ HA.out HB.out HRR.out.1 HRR.out.2).mono ?_
            rintro e w5 ⟨aY, cY, rfl, h9, hb⟩
            rw [hT] at h9 ⊢
            have HY := Lib.hid h9
            clear h9
            have HS5 := Lib.hid (HS4.out.next hb)
            replace HA := Lib.hid (RowN.below HA.out hb)
            replace HB := Lib.hid (RowN.below HB.out hb)
            replace HX := Lib.hid (RowN.below HX.out hb)
            replace HEX := Lib.hid (HEX.out.below hb)
            clear hb
            go_wp2_with fail
            refine (code_er _ _ _ HEX.out HS5.out.et).mono ?_
            rintro e w6 ⟨rfl, hb⟩
            have HS6 := Lib.hid (HS5.out.next hb)
            replace HA := Lib.hid (RowN.below HA.out hb)
            replace HB := Lib.hid (RowN.below HB.out hb)
            replace HX := Lib.hid (RowN.below HX.out hb)
            replace HEX := Lib.hid (HEX.out.below hb)
            replace HY := Lib.hid (RowN.below HY.out hb)
            clear hb
            go_wp2_with fail
            refine (same9 _ _ _ _ _ _ _ HX.out HY.out HML.out).mono ?_
            rintro e w7 ⟨rfl, hb⟩
            rw [if_pos rfl]
            have HS7 := Lib.hid (HS6.out.next hb)
            replace HA := Lib.hid (RowN.below HA.out hb)
            replace HB := Lib.hid (RowN.below HB.out hb)
            replace HX := Lib.hid (RowN.below HX.out hb)
            replace HEX := Lib.hid (HEX.out.below hb)
            replace HY := Lib.hid (RowN.below HY.out hb)
            clear hb
            go_wp2_with fail
            refine (LR T aX cX _ HS7.out.et HX.out HSMT.out).mono ?_
            rintro e w8 ⟨rfl, hb⟩
            rw [decide_eq_true HTR.out]
            have HS8 := Lib.hid (HS7.out.next hb)
            replace HA := Lib.hid (RowN.below HA.out hb)
            replace HB := Lib.hid (RowN.below HB.out hb)
            replace HX := Lib.hid (RowN.below HX.out hb)
            replace HEX := Lib.hid (HEX.out.below hb)
            replace HY := Lib.hid (RowN.below HY.out hb)
            clear hb
            go_wp2
            go_ret
            exact ⟨by first | rfl | simp, HS8.out.below⟩
        · have hR2 := decide_eq_false hr2
          have H1 : Hid (∀ w, EtLaid w → Ents w a ca low → Ents w b cb high → Calls Tryd.prog 6 #[.slice a low.length ca, .slice b high.length cb, .bool bot] w fun e w' => ∃ a' c' er, e = .returned (.tuple #[.slice a' (List.length (α := Ent) []) c', er]) ∧ Ents w' a' c' [] ∧ Er w' 16 er ∧ Below w.heap.size w w') := fun w h1 h2 h3 => by
            have := L2 low a ca high b cb bot w h1 h2 h3 HSMA.out HSMB.out
            rwa [tw_bad (fun h => hr2 h.2)] at this
          clear hr1 hr2
          go_enter Tryd.func3, Tryd.ntmps3
          go_wp2_with fail
          refine (awake15 L2 _ HS0.out.et).mono ?_
          rintro e w1 ⟨rfl, hb⟩
          have HS1 := Lib.hid (HS0.out.next hb)
          replace HA := Lib.hid (RowN.below HA.out hb)
          replace HB := Lib.hid (RowN.below HB.out hb)
          clear hb
          go_wp2_with fail
          refine (size9 low a ca _ HA.out).mono ?_
          rintro e w9 ⟨rfl, rfl⟩
          rw [hF1]
          go_wp2_with fail
          refine (size9 high b cb _ HB.out).mono ?_
          rintro e w9 ⟨rfl, rfl⟩
          rw [hF2]
          go_wp2_with fail
          refine (H1.out _ HS1.out.et HA.out HB.out).mono ?_
          rintro e w2 ⟨aX, cX, eX, rfl, h9, e9, hb⟩
          have HX := Lib.hid h9
          have HEX := Lib.hid e9
          clear h9 e9
          have HS2 := Lib.hid (HS1.out.next hb)
          replace HA := Lib.hid (RowN.below HA.out hb)
          replace HB := Lib.hid (RowN.below HB.out hb)
          clear hb
          go_wp2_with fail
          refine (refRight9 low a ca _ HA.out (by have := HSMA.out.1; omega) (fun e he => (HSMA.out.2 e he).1)).mono ?_
          rintro e w3 ⟨rfl, hb⟩
          rw [hR1]
          have HS3 := Lib.hid (HS2.out.next hb)
          replace HA := Lib.hid (RowN.below HA.out hb)
          replace HB := Lib.hid (RowN.below HB.out hb)
          replace HX := Lib.hid (RowN.below HX.out hb)
          replace HEX := Lib.hid (HEX.out.below hb)
          clear hb
          go_wp2_with fail
          refine (refRight9 high b cb _ HB.out (by have := HSMB.out.1; omega) (fun e he => (HSMB.out.2 e he).1)).mono ?_
          rintro e w4 ⟨rfl, hb⟩
          rw [hR2]
          have HS4 := Lib.hid (HS3.out.next hb)
          replace HA := Lib.hid (RowN.below HA.out hb)
          replace HB := Lib.hid (RowN.below HB.out hb)
          replace HX := Lib.hid (RowN.below HX.out hb)
          replace HEX := Lib.hid (HEX.out.below hb)
          clear hb
          go_wp2_with fail
          refine (code_er _ _ _ HEX.out HS4.out.et).mono ?_
          rintro e w5 ⟨rfl, hb⟩
          have HS5 := Lib.hid (HS4.out.next hb)
          replace HA := Lib.hid (RowN.below HA.out hb)
          replace HB := Lib.hid (RowN.below HB.out hb)
          replace HX := Lib.hid (RowN.below HX.out hb)
          replace HEX := Lib.hid (HEX.out.below hb)
          clear hb
          go_wp2
          go_ret
          exact ⟨by first | rfl | simp, HS5.out.below⟩
      · have hR1 := decide_eq_false hr1
        have H1 : Hid (∀ w, EtLaid w → Ents w a ca low → Ents w b cb high → Calls Tryd.prog 6 #[.slice a low.length ca, .slice b high.length cb, .bool bot] w fun e w' => ∃ a' c' er, e = .returned (.tuple #[.slice a' (List.length (α := Ent) []) c', er]) ∧ Ents w' a' c' [] ∧ Er w' 16 er ∧ Below w.heap.size w w') := fun w h1 h2 h3 => by
          have := L2 low a ca high b cb bot w h1 h2 h3 HSMA.out HSMB.out
          rwa [tw_bad (fun h => hr1 h.1)] at this
        clear hr1
        go_enter Tryd.func3, Tryd.ntmps3
        go_wp2_with fail
        refine (awake15 L2 _ HS0.out.et).mono ?_
        rintro e w1 ⟨rfl, hb⟩
        have HS1 := Lib.hid (HS0.out.next hb)
        replace HA := Lib.hid (RowN.below HA.out hb)
        replace HB := Lib.hid (RowN.below HB.out hb)
        clear hb
        go_wp2_with fail
        refine (size9 low a ca _ HA.out).mono ?_
        rintro e w9 ⟨rfl, rfl⟩
        rw [hF1]
        go_wp2_with fail
        refine (size9 high b cb _ HB.out).mono ?_
        rintro e w9 ⟨rfl, rfl⟩
        rw [hF2]
        go_wp2_with fail
        refine (H1.out _ HS1.out.et HA.out HB.out).mono ?_
        rintro e w2 ⟨aX, cX, eX, rfl, h9, e9, hb⟩
        have HX := Lib.hid h9
        have HEX := Lib.hid e9
        clear h9 e9
        have HS2 := Lib.hid (HS1.out.next hb)
        replace HA := Lib.hid (RowN.below HA.out hb)
        replace HB := Lib.hid (RowN.below HB.out hb)
        clear hb
        go_wp2_with fail
        refine (refRight9 low a ca _ HA.out (by have := HSMA.out.1; omega) (fun e he => (HSMA.out.2 e he).1)).mono ?_
        rintro e w3 ⟨rfl, hb⟩
        rw [hR1]
        have HS3 := Lib.hid (HS2.out.next hb)
        replace HA := Lib.hid (RowN.below HA.out hb)
        replace HB := Lib.hid (RowN.below HB.out hb)
        replace HX := Lib.hid (RowN.below HX.out hb)
        replace HEX := Lib.hid (HEX.out.below hb)
        clear hb
        go_wp2_with fail
        refine (code_er _ _ _ HEX.out HS3.out.et).mono ?_
        rintro e w4 ⟨rfl, hb⟩
        have HS4 := Lib.hid (HS3.out.next hb)
        replace HA := Lib.hid (RowN.below HA.out hb)
        replace HB := Lib.hid (RowN.below HB.out hb)
        replace HX := Lib.hid (RowN.below HX.out hb)
        replace HEX := Lib.hid (HEX.out.below hb)
        clear hb
        go_wp2
        go_ret
        exact ⟨by first | rfl | simp, HS4.out.below⟩
    · have hF2 : (if SizeOK high then (1 : Int) else 0) = 0 := if_neg hz2
      clear hz1 hz2
      go_enter Tryd.func3, Tryd.ntmps3
      go_wp2_with fail
      refine (awake15 L2 _ HS0.out.et).mono ?_
      rintro e w1 ⟨rfl, hb⟩
      have HS1 := Lib.hid (HS0.out.next hb)
      replace HA := Lib.hid (RowN.below HA.out hb)
      replace HB := Lib.hid (RowN.below HB.out hb)
      clear hb
      go_wp2_with fail
      refine (size9 low a ca _ HA.out).mono ?_
      rintro e w9 ⟨rfl, rfl⟩
      rw [hF1]
      go_wp2_with fail
      refine (size9 high b cb _ HB.out).mono ?_
      rintro e w9 ⟨rfl, rfl⟩
      rw [hF2]
      go_wp2_with fail
      refine (awake15 L2 _ HS1.out.et).mono ?_
      rintro e w2 ⟨rfl, hb⟩
      have HS2 := Lib.hid (HS1.out.next hb)
      replace HA := Lib.hid (RowN.below HA.out hb)
      replace HB := Lib.hid (RowN.below HB.out hb)
      clear hb
      go_wp2
      go_ret
      exact ⟨by first | rfl | simp, HS2.out.below⟩
  · have hF1 : (if SizeOK low then (1 : Int) else 0) = 0 := if_neg hz1
    clear hz1
    go_enter Tryd.func3, Tryd.ntmps3
    go_wp2_with fail
    refine (awake15 L2 _ HS0.out.et).mono ?_
    rintro e w1 ⟨rfl, hb⟩
    have HS1 := Lib.hid (HS0.out.next hb)
    replace HA := Lib.hid (RowN.below HA.out hb)
    replace HB := Lib.hid (RowN.below HB.out hb)
    clear hb
    go_wp2_with fail
    refine (size9 low a ca _ HA.out).mono ?_
    rintro e w9 ⟨rfl, rfl⟩
    rw [hF1]
    go_wp2_with fail
    refine (awake15 L2 _ HS1.out.et).mono ?_
    rintro e w2 ⟨rfl, hb⟩
    have HS2 := Lib.hid (HS1.out.next hb)
    replace HA := Lib.hid (RowN.below HA.out hb)
    replace HB := Lib.hid (RowN.below HB.out hb)
    clear hb
    go_wp2
    go_ret
    exact ⟨by first | rfl | simp, HS2.out.below⟩
end Go.Proofs.YtkclclhmeenncaaDoor
