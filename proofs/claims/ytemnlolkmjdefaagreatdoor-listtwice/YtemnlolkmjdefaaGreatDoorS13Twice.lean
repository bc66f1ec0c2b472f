/-
  The law ListTwice walked over Walk13: for every stack it returns true and changes nothing that was there. Conditions: package list answers as Walk13 and Names13 say; the stack lies in memory; errorType holds error's type.
-/
import Derived.Test.YtemnlolkmjdefaaGreatDoorS13Awake
import Derived.Test.YtemnlolkmjdefaaGreatDoorS12Few
import Derived.Test.YtemnlolkmjdefaaGreatDoorPc
namespace Go.Proofs.YtemnlolkmjdefaaGreatDoor
open Go.RowKit

theorem stk_lit2 (w : World) (a : Option Addr) (cap : Nat) (l : List Ent) (h : Ents w a cap l) : Stk (w.alloc (.cells #[.slice a l.length cap, .slice a l.length cap] 38)) (some ⟨w.heap.size, 0, none⟩) 2 [l, l] := by
  have hb : Below w.heap.size w (w.alloc (.cells #[.slice a l.length cap, .slice a l.length cap] 38)) := (Below.refl _ _).alloc (Nat.le_refl _) _
  refine ⟨Nat.le_refl _, .inr ⟨w.heap.size, 0, rfl, by simp, fun j x hx => ?_⟩⟩
  match j, hx with
  | 0, hx => obtain rfl : l = x := by simpa using hx
             exact ⟨a, cap, (cell_of8 (heap_alloc_new _ _) (j := 0 + 0) rfl).1, RowN.below h hb⟩
  | 1, hx => obtain rfl : l = x := by simpa using hx
             exact ⟨a, cap, (cell_of8 (heap_alloc_new _ _) (j := 0 + 1) rfl).1, RowN.below h hb⟩
set_option maxRecDepth 10000 in
set_option maxHeartbeats 8000000 in
theorem lawTwice13 (LN : Names13) (LW : Walk13) (S : List (List Ent))  (a : Option Addr) (cap : Nat) (W : World) (hg : EtLaid W) (hk : Stk W a cap S) : Calls Tryz.prog 7 #[.slice a S.length cap] W fun e w' => e = .returned (.bool true) ∧ Below W.heap.size W w' := by
  have HS0 := Lib.hid (st_self hg)
  have HK := Lib.hid hk
  clear hg hk
  by_cases hf : FewOK S
  · have hF1 : (if FewOK S then (1 : Int) else 0) = 1 := if_pos hf
    have HFW := Lib.hid hf
    have HSS := Lib.hid (few_sm12 hf)
    clear hf
    go_enter Tryz.func7, Tryz.ntmps7
    go_wp2_with fail
    refine (awake13 LN _ HS0.out.et).mono ?_
    rintro e w1 ⟨rfl, hb⟩
    have HS1 := Lib.hid (HS0.out.next hb)
    replace HK := Lib.hid (HK.out.below hb)
    clear hb
    go_wp2_with fail
    refine (few10 S a cap _ HK.out).mono ?_
    rintro e w9 ⟨rfl, rfl⟩
    rw [hF1]
    go_wp2_with fail
    refine (LW S a cap _ HS1.out.et HK.out HSS.out.1 HSS.out.2).mono ?_
    rintro e w2 ⟨a1, c1, rfl, h9, hb⟩
    have HA := Lib.hid h9
    clear h9
    have HS2 := Lib.hid (HS1.out.next hb)
    replace HK := Lib.hid (HK.out.below hb)
    clear hb
    have HTR := Lib.hid (wkV_tree S)
    obtain ⟨T, hT⟩ : ∃ T, wkV S = T := ⟨_, rfl⟩
    rw [hT] at HA HTR ⊢
    clear hT
    by_cases h64 : (64 : Int) < (T.length : Int)
    · have g1 : (64 : Int) < (T.length : Int) := h64
      go_wp2
      go_ret
      exact ⟨by first | rfl | simp, HS2.out.below⟩
    · have g1 : ¬ (64 : Int) < (T.length : Int) := h64
      have HWK := Lib.hid (wk_one HTR.out.1 (show T.length ≤ 64 by omega))
      have HSM := Lib.hid (sm_right (right_tree13 HTR.out.1 (show T.length ≤ 64 by omega)))
      have HML := Lib.hid (show T.length ≤ maxLen by unfold maxLen; omega)
      have hb : Below w2.heap.size w2 (w2.alloc (.cells #[.slice a1 T.length c1] 38)) := (Below.refl _ _).alloc (Nat.le_refl _) _
      have hk9 := stk_lit1 w2 a1 c1 T HA.out
      obtain ⟨w3, hwx⟩ : ∃ v, w2.alloc (.cells #[.slice a1 T.length c1] 38) = v := ⟨_, rfl⟩
      obtain ⟨Mx, hMx⟩ : ∃ M, w2.heap.size = M := ⟨_, rfl⟩
      rw [hwx] at hb hk9
      rw [hMx] at hk9
      have HS3 := Lib.hid (HS2.out.next hb)
      replace HK := Lib.hid (HK.out.below hb)
      replace HA := Lib.hid (HA.out.below hb)
      clear hb
      have HLx := Lib.hid hk9
      clear hk9
      go_wp2_with fail
      refine (LW [T] _ 1 _ HS3.out.et HLx.out (by simp) (fun l hl => by rw [show l = T by simpa using hl]; exact HSM.out)).mono ?_
      rintro e w4 ⟨bax, dx, rfl, h9, hb⟩
      rw [HWK.out.1] at h9 ⊢
      have HBx := Lib.hid h9
      clear h9
      have HS4 := Lib.hid (HS3.out.next hb)
      replace HK := Lib.hid (HK.out.below hb)
      replace HA := Lib.hid (HA.out.below hb)
      replace HLx := Lib.hid (HLx.out.below hb)
      clear hb
      clear hwx hMx
      go_wp2_with fail
      refine (same9 _ _ _ _ _ _ _ HBx.out HA.out HML.out).mono ?_
      rintro e w5 ⟨rfl, hb⟩
      have HS5 := Lib.hid (HS4.out.next hb)
      replace HK := Lib.hid (HK.out.below hb)
      replace HA := Lib.hid (HA.out.below hb)
      replace HLx := Lib.hid (HLx.out.below hb)
      replace HBx := Lib.hid (HBx.out.below hb)
      clear hb
      rw [if_pos rfl]
      have hb : Below w5.heap.size w5 (w5.alloc (.cells #[.slice a1 T.length c1, .slice a1 T.length c1] 38)) := (Below.refl _ _).alloc (Nat.le_refl _) _
      have hk9 := stk_lit2 w5 a1 c1 T HA.out
      obtain ⟨w6, hwy⟩ : ∃ v, w5.alloc (.cells #[.slice a1 T.length c1, .slice a1 T.length c1] 38) = v := ⟨_, rfl⟩
      obtain ⟨My, hMy⟩ : ∃ M, w5.heap.size = M := ⟨_, rfl⟩
      rw [hwy] at hb hk9
      rw [hMy] at hk9
      have HS6 := Lib.hid (HS5.out.next hb)
      replace HK := Lib.hid (HK.out.below hb)
      replace HA := Lib.hid (HA.out.below hb)
      replace HLx := Lib.hid (HLx.out.below hb)
      replace HBx := Lib.hid (HBx.out.below hb)
      clear hb
      have HLy := Lib.hid hk9
      clear hk9
      go_wp2_with fail
      refine (LW [T, T] _ 2 _ HS6.out.et HLy.out (by simp) (fun l hl => by rw [show l = T by simpa using hl]; exact HSM.out)).mono ?_
      rintro e w7 ⟨bay, dy, rfl, h9, hb⟩
      rw [HWK.out.2] at h9 ⊢
      have HBy := Lib.hid h9
      clear h9
      have HS7 := Lib.hid (HS6.out.next hb)
      replace HK := Lib.hid (HK.out.below hb)
      replace HA := Lib.hid (HA.out.below hb)
      replace HLx := Lib.hid (HLx.out.below hb)
      replace HBx := Lib.hid (HBx.out.below hb)
      replace HLy := Lib.hid (HLy.out.below hb)
      clear hb
      clear hwy hMy
      go_wp2_with fail
      refine (same9 _ _ _ _ _ _ _ HBy.out HA.out HML.out).mono ?_
      rintro e w8 ⟨rfl, hb⟩
      have HS8 := Lib.hid (HS7.out.next hb)
      replace HK := Lib.hid (HK.out.below hb)
      replace HA := Lib.hid (HA.out.below hb)
      replace HLx := Lib.hid (HLx.out.below hb)
      replace HBx := Lib.hid (HBx.out.below hb)
      replace HLy := Lib.hid (HLy.out.below hb)
      replace HBy := Lib.hid (HBy.out.below hb)
      clear hb
      rw [if_pos rfl]
      go_wp2
      go_ret
      exact ⟨by first | rfl | simp, HS8.out.below⟩
  · have hF1 : (if FewOK S then (1 : Int) else 0) = 0 := if_neg hf
    clear hf
    go_enter Tryz.func7, Tryz.ntmps7
    go_wp2_with fail
    refine (awake13 LN _ HS0.out.et).mono ?_
    rintro e w1 ⟨rfl, hb⟩
    have HS1 := Lib.hid (HS0.out.next hb)
    replace HK := Lib.hid (HK.out.below hb)
    clear hb
    go_wp2_with fail
    refine (few10 S a cap _ HK.out).mono ?_
    rintro e w9 ⟨rfl, rfl⟩
    rw [hF1]
    go_wp2_with fail
    refine (awake13 LN _ HS1.out.et).mono ?_
    rintro e w2 ⟨rfl, hb⟩
    have HS2 := Lib.hid (HS1.out.next hb)
    replace HK := Lib.hid (HK.out.below hb)
    clear hb
    go_wp2
    go_ret
    exact ⟨by first | rfl | simp, HS2.out.below⟩
end Go.Proofs.YtemnlolkmjdefaaGreatDoor
