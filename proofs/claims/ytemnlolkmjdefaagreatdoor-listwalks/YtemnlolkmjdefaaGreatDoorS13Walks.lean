/-
  The law ListWalks walked over Walk13: for every stack it returns true and changes nothing that was there. Conditions: package list answers as Walk13 and Names13 say, fold.Stack as Stack13; the stack lies in memory; errorType holds error's type.
-/
import Derived.Test.YtemnlolkmjdefaaGreatDoorS13Awake
import Derived.Test.YtemnlolkmjdefaaGreatDoorS12Few
import Derived.Test.YtemnlolkmjdefaaGreatDoorPc
namespace Go.Proofs.YtemnlolkmjdefaaGreatDoor
open Go.RowKit

set_option maxRecDepth 10000 in
set_option maxHeartbeats 8000000 in
theorem lawWalks13 (LN : Names13) (LW : Walk13) (LF : Stack13) (S : List (List Ent))  (a : Option Addr) (cap : Nat) (W : World) (hg : EtLaid W) (hk : Stk W a cap S) : Calls Tryz.prog 4 #[.slice a S.length cap] W fun e w' => e = .returned (.bool true) ∧ Below W.heap.size W w' := by
  have HS0 := Lib.hid (st_self hg)
  have HK := Lib.hid hk
  clear hg hk
  by_cases hf : FewOK S
  · have hF1 : (if FewOK S then (1 : Int) else 0) = 1 := if_pos hf
    have HFW := Lib.hid hf
    have HSS := Lib.hid (few_sm12 hf)
    clear hf
    go_enter Tryz.func4, Tryz.ntmps4
    go_wp2_with fail
    refine (awake13 LN _ HS0.out.et).mono ?_
    rintro e w1 ⟨rfl, hb⟩
    have HS1 := Lib.hid (HS0.out.next hb)
    replace HK := Lib.hid (HK.out.below hb)
    clear hb
    go_wp2_with fail
    refine (few10 S a cap _ HK.out).mono ?_
    rintro e w9 ⟨rfl, rfl⟩
    rw [hF1]
    go_wp2_with fail
    refine (LW S a cap _ HS1.out.et HK.out HSS.out.1 HSS.out.2).mono ?_
    rintro e w2 ⟨a1, c1, rfl, h9, hb⟩
    have HA := Lib.hid h9
    clear h9
    have HS2 := Lib.hid (HS1.out.next hb)
    replace HK := Lib.hid (HK.out.below hb)
    clear hb
    go_wp2_with fail
    refine (LF S a cap _ HK.out HSS.out.2).mono ?_
    rintro e w3 ⟨a2, c2, rfl, h9, hb⟩
    have HC := Lib.hid h9
    clear h9
    have HS3 := Lib.hid (HS2.out.next hb)
    replace HK := Lib.hid (HK.out.below hb)
    replace HA := Lib.hid (HA.out.below hb)
    clear hb
    go_wp2_with fail
    refine (same9 _ _ _ _ _ _ _ HA.out HC.out (by have := (wkV_tree S).2; unfold maxLen; omega)).mono ?_
    rintro e w4 ⟨rfl, hb⟩
    have HS4 := Lib.hid (HS3.out.next hb)
    replace HK := Lib.hid (HK.out.below hb)
    replace HA := Lib.hid (HA.out.below hb)
    replace HC := Lib.hid (HC.out.below hb)
    clear hb
    rw [if_pos rfl]
    go_wp2
    go_ret
    exact ⟨by first | rfl | simp, HS4.out.below⟩
  · have hF1 : (if FewOK S then (1 : Int) else 0) = 0 := if_neg hf
    clear hf
    go_enter Tryz.func4, Tryz.ntmps4
    go_wp2_with fail
    refine (awake13 LN _ HS0.out.et).mono ?_
    rintro e w1 ⟨rfl, hb⟩
    have HS1 := Lib.hid (HS0.out.next hb)
    replace HK := Lib.hid (HK.out.below hb)
    clear hb
    go_wp2_with fail
    refine (few10 S a cap _ HK.out).mono ?_
    rintro e w9 ⟨rfl, rfl⟩
    rw [hF1]
    go_wp2_with fail
    refine (awake13 LN _ HS1.out.et).mono ?_
    rintro e w2 ⟨rfl, hb⟩
    have HS2 := Lib.hid (HS1.out.next hb)
    replace HK := Lib.hid (HK.out.below hb)
    clear hb
    go_wp2
    go_ret
    exact ⟨by first | rfl | simp, HS2.out.below⟩
end Go.Proofs.YtemnlolkmjdefaaGreatDoor
