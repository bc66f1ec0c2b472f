/-
  The law LayerReads walked over Layer9: for every text it returns true and changes nothing that was there. Conditions: package layer answers as Layer9 says; errorType holds error's type.
-/
import Derived.Test.YtflomllfehoedaaDoorPk7
namespace Go.Proofs.YtflomllfehoedaaDoor
open Go.RowKit

set_option maxRecDepth 10000 in
set_option maxHeartbeats 2000000 in
theorem lawReads (L : Layer9) (s : ByteArray) (W : World) (hg : EtLaid W) : Calls Tryd.prog 6 #[.string s] W fun e w' => e = .returned (.bool true) ∧ Below W.heap.size W w' := by
  have HS0 := Lib.hid (st_self hg)
  clear hg
  by_cases hz : (5000 : Int) < (s.size : Int)
  · go_enter Tryd.func6, Tryd.ntmps6
    go_wp2_with fail
    refine (awake9 L _ HS0.out.et).mono ?_
    rintro e w1 ⟨rfl, hb⟩
    have HS1 := Lib.hid (HS0.out.next hb)
    clear hb
    go_wp2_with fail
    refine (awake9 L _ HS1.out.et).mono ?_
    rintro e w2 ⟨rfl, hb⟩
    have HS2 := Lib.hid (HS1.out.next hb)
    clear hb
    go_wp2
    go_ret
    exact ⟨rfl, HS2.out.below⟩
  · have HZ := Lib.hid (show s.size ≤ 5000 by omega)
    go_enter Tryd.func6, Tryd.ntmps6
    go_wp2_with fail
    refine (awake9 L _ HS0.out.et).mono ?_
    rintro e w1 ⟨rfl, hb⟩
    have HS1 := Lib.hid (HS0.out.next hb)
    clear hb
    go_wp2_with fail
    refine (L.read s _ HS1.out.et (by have := HZ.out; omega)).mono ?_
    rintro e w2 ⟨a, cap, er, l, n, rfl, hE, hEr, hc, hb⟩
    have HS2 := Lib.hid (HS1.out.next hb)
    have HE := Lib.hid hE
    have HEr := Lib.hid hEr
    clear hE hEr
    clear hb
    rcases hc with ⟨rfl, hr, hs⟩ | ⟨hn, rfl, _⟩
    · have HR := Lib.hid hr
      have HV := Lib.hid (show lyV l = (0, s) by unfold lyV; rw [if_pos hr, hs])
      clear hr hs
      go_wp2_with fail
      refine (code_er _ _ _ HEr.out HS2.out.et).mono ?_
      rintro e w3 ⟨rfl, hb⟩
      have HS3 := Lib.hid (HS2.out.next hb)
      replace HEr := Lib.hid (HEr.out.below hb)
      replace HE := Lib.hid (HE.out.below hb)
      clear hb
      go_wp2_with fail
      refine (L.lay l a cap _ HS3.out.et HE.out (sm_right HR.out)).mono ?_
      rintro e w4 ⟨er2, rfl, hEr2, hb⟩
      have HS4 := Lib.hid (HS3.out.next hb)
      replace HE := Lib.hid (HE.out.below hb)
      have HEr2 := Lib.hid hEr2
      clear hEr2
      clear hb
      rw [HV.out] at HEr2 ⊢
      go_wp2_with fail
      refine (L.right l a cap _ HS4.out.et HE.out (sm_right HR.out)).mono ?_
      rintro e w5 ⟨rfl, hb⟩
      have HS5 := Lib.hid (HS4.out.next hb)
      replace HEr2 := Lib.hid (HEr2.out.below hb)
      clear hb
      rw [decide_eq_true HR.out]
      go_wp2_with fail
      refine (code_er _ _ _ HEr2.out HS5.out.et).mono ?_
      rintro e w6 ⟨rfl, hb⟩
      have HS6 := Lib.hid (HS5.out.next hb)
      replace HEr2 := Lib.hid (HEr2.out.below hb)
      clear hb
      go_wp2
      go_ret
      exact ⟨by simp, HS6.out.below⟩
    · rcases hn with rfl | rfl
      · skip
        go_wp2_with fail
        refine (code_er _ _ _ HEr.out HS2.out.et).mono ?_
        rintro e w3 ⟨rfl, hb⟩
        have HS3 := Lib.hid (HS2.out.next hb)
        replace HEr := Lib.hid (HEr.out.below hb)
        clear hb
        go_wp2_with fail
        refine (code_er _ _ _ HEr.out HS3.out.et).mono ?_
        rintro e w4 ⟨rfl, hb⟩
        have HS4 := Lib.hid (HS3.out.next hb)
        replace HEr := Lib.hid (HEr.out.below hb)
        clear hb
        go_wp2
        go_ret
        exact ⟨by first | rfl | simp, HS4.out.below⟩
      · skip
        go_wp2_with fail
        refine (code_er _ _ _ HEr.out HS2.out.et).mono ?_
        rintro e w3 ⟨rfl, hb⟩
        have HS3 := Lib.hid (HS2.out.next hb)
        replace HEr := Lib.hid (HEr.out.below hb)
        clear hb
        go_wp2_with fail
        refine (code_er _ _ _ HEr.out HS3.out.et).mono ?_
        rintro e w4 ⟨rfl, hb⟩
        have HS4 := Lib.hid (HS3.out.next hb)
        replace HEr := Lib.hid (HEr.out.below hb)
        clear hb
        go_wp2_with fail
        refine (code_er _ _ _ HEr.out HS4.out.et).mono ?_
        rintro e w5 ⟨rfl, hb⟩
        have HS5 := Lib.hid (HS4.out.next hb)
        replace HEr := Lib.hid (HEr.out.below hb)
        clear hb
        go_wp2
        go_ret
        exact ⟨by first | rfl | simp, HS5.out.below⟩
end Go.Proofs.YtflomllfehoedaaDoor
