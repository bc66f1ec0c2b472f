/-
  The law FoldPlays walked over Fold10: for every stack and list of entries it returns true and changes nothing that was there. Conditions: package fold answers as Fold10 says; both lie in memory.
-/
import Derived.Test.YtkannambildnoaaPkb5
namespace Go.Proofs.Ytkannambildnoaa
open Go.RowKit

set_option maxRecDepth 10000 in
set_option maxHeartbeats 4000000 in
theorem lawPlays10 (L : Fold10) (S : List (List Ent)) (t : List Ent) (a a2 : Option Addr) (cap cap2 : Nat) (W : World) (hg : Env W) (hk : Stk W a cap S) (h : Ents W a2 cap2 t) : Calls Try.prog 5 #[.slice a S.length cap, .slice a2 t.length cap2] W fun e w' => e = .returned (.bool true) ∧ Below W.heap.size W w' := by
  have HS0 := Lib.hid (st10_self hg)
  have HK := Lib.hid hk
  have HE := Lib.hid h
  clear hg hk h
  by_cases hf : FewOK S
  · have hF1 : (if FewOK S then (1 : Int) else 0) = 1 := if_pos hf
    have HSS := Lib.hid (few_sm hf)
    have H12 := Lib.hid hf.1
    have HSZ := Lib.hid hf.2
    clear hf
    by_cases hz : SizeOK t
    · have hZ1 : (if SizeOK t then (1 : Int) else 0) = 1 := if_pos hz
      have HSm := Lib.hid (sm_size hz)
      have HTZ := Lib.hid (show t.length ≤ 70 ∧ ∀ e ∈ t, e.1.size ≤ 100000 from ⟨hz.1, fun e he => by have := hz.2 e he; omega⟩)
      clear hz
      obtain ⟨tv, htv⟩ : ∃ tv, decide (TreeL t) = tv := ⟨_, rfl⟩
      have HTV := Lib.hid htv
      clear htv
      go_enter Try.func5, Try.ntmps5
      go_wp2_with fail
      refine (awake10 L _ HS0.out.env).mono ?_
      rintro e w1 ⟨rfl, hb⟩
      have HS1 := Lib.hid (HS0.out.next hb)
      replace HK := Lib.hid (HK.out.below hb)
      replace HE := Lib.hid (HE.out.below hb)
      clear hb
      go_wp2_with fail
      refine (few10 S a cap _ HK.out).mono ?_
      rintro e w9 ⟨rfl, rfl⟩
      rw [hF1]
      go_wp2_with fail
      refine (size9 t a2 cap2 _ HE.out).mono ?_
      rintro e w9 ⟨rfl, rfl⟩
      rw [hZ1]
      go_wp2_with fail
      refine (L.tree t a2 cap2 _ HS1.out.env HE.out HSm.out).mono ?_
      rintro e w2 ⟨rfl, hb⟩
      have HS2 := Lib.hid (HS1.out.next hb)
      replace HK := Lib.hid (HK.out.below hb)
      replace HE := Lib.hid (HE.out.below hb)
      clear hb
      rw [HTV.out]
      go_wp2_with fail
      refine (refTree10 t a2 cap2 _ HE.out (by have := HTZ.out.1; omega) HTZ.out.2).mono ?_
      rintro e w3 ⟨rfl, hb⟩
      have HS3 := Lib.hid (HS2.out.next hb)
      replace HK := Lib.hid (HK.out.below hb)
      replace HE := Lib.hid (HE.out.below hb)
      clear hb
      rw [HTV.out]
      go_wp2
      go_loopg [5] S.length (fun g i wx => ∃ n : Nat, i = .int .i64 (n : Int) ∧ n + g = S.length ∧ Hid (∀ l ∈ S.take n, RightL l) ∧ Hid (Stk wx a cap S) ∧ Hid (Ents wx a2 cap2 t) ∧ Hid (St10 W wx))
      case atStart => exact ⟨0, rfl, by omega, by intro l hl; simp at hl, HK.out, HE.out, HS3.out⟩
      case round =>
        obtain ⟨n, rfl, hn, HR, HK2, HE2, HS4⟩ := hrel
        have hw : IntKind.i64.wrap ((n : Int) + 1) = (n : Int) + 1 := IntWalk.i64_in _ (by have := H12.out; omega)
        by_cases hlt : n < S.length
        · have hlt' : (n : Int) < (S.length : Int) := by omega
          have HT := Lib.hid (take_get S n hlt)
          have HXS := Lib.hid (HSS.out.2 _ (List.getElem_mem hlt))
          have HXZ := Lib.hid (show (S[n]).length ≤ 1000 ∧ ∀ e ∈ S[n], e.1.size ≤ 100000 from ⟨(HSS.out.2 _ (List.getElem_mem hlt)).1, fun e he => ((HSS.out.2 _ (List.getElem_mem hlt)).2 e he).1⟩)
          obtain ⟨x, hx⟩ : ∃ x, S[n] = x := ⟨_, rfl⟩
          rw [hx] at HT HXS HXZ
          have HXK := Lib.hid hx
          clear hx
          obtain ⟨b, off, a', cap', e9, hc, hE⟩ := Stk.at HK2.out (Below.refl _ _) hlt
          rw [HXK.out] at hc hE
          cases e9
          have HX := Lib.hid hE
          clear hE
          go_wp2_with fail
          refine (L.over t x a2 cap2 a' cap' _ HS4.out.env HE2.out HX.out HSm.out HXS.out).mono ?_
          rintro e w5 ⟨a4, cap4, rfl, h4, hb⟩
          have HS5 := Lib.hid (HS4.out.next hb)
          replace HK2 := Lib.hid (HK2.out.below hb)
          replace HE2 := Lib.hid (HE2.out.below hb)
          replace HX := Lib.hid (HX.out.below hb)
          have HE4 := Lib.hid h4
          clear h4 hc
          clear hb
          go_wp2_with fail
          refine (refTree10 t a2 cap2 _ HE2.out (by have := HTZ.out.1; omega) HTZ.out.2).mono ?_
          rintro e w6 ⟨rfl, hb⟩
          have HS6 := Lib.hid (HS5.out.next hb)
          replace HK2 := Lib.hid (HK2.out.below hb)
          replace HE2 := Lib.hid (HE2.out.below hb)
          replace HE4 := Lib.hid (HE4.out.below hb)
          replace HX := Lib.hid (HX.out.below hb)
          clear hb
          rw [HTV.out]
          by_cases hr : RightL x
          · have hr1 := decide_eq_true hr
            have HRX := Lib.hid hr
            have HRN : Hid (∀ l ∈ S.take (n + 1), RightL l) := fun l hl => by
              rw [HT.out] at hl
              rcases List.mem_append.1 hl with hl | hl
              · exact HR.out l hl
              · obtain rfl : l = x := by simpa using hl
                exact hr
            cases tv with
            | true =>
              have HTT := Lib.hid (of_decide_eq_true HTV.out)
              have HO := Lib.hid (ov_right HTT.out.2 (by have := HTZ.out.1; omega) hr)
              clear hr
              rw [HO.out] at HE4 ⊢
              obtain ⟨b, off, a', cap', e9, hc, hE⟩ := Stk.at HK2.out (Below.refl _ _) hlt
              rw [HXK.out] at hc hE
              cases e9
              have HX := Lib.hid hE
              clear hE
              go_wp2_with fail
              refine (refRight9 x a' cap' _ HX.out HXZ.out.1 HXZ.out.2).mono ?_
              rintro e w7 ⟨rfl, hb⟩
              have HS7 := Lib.hid (HS6.out.next hb)
              replace HK2 := Lib.hid (HK2.out.below hb)
              replace HE2 := Lib.hid (HE2.out.below hb)
              replace HE4 := Lib.hid (HE4.out.below hb)
              clear hc
              clear hb
              rw [hr1]
              clear HX
              obtain ⟨b, off, a', cap', e9, hc, hE⟩ := Stk.at HK2.out (Below.refl _ _) hlt
              rw [HXK.out] at hc hE
              cases e9
              have HX := Lib.hid hE
              clear hE
              go_wp2_with fail
              refine (refOver10 t x a2 a' cap2 cap' _ HE2.out HX.out HTT.out.2 HRX.out (by have := HTZ.out.1; omega)).mono ?_
              rintro e w8 ⟨a6, cap6, rfl, h6, hb⟩
              have HS8 := Lib.hid (HS7.out.next hb)
              replace HK2 := Lib.hid (HK2.out.below hb)
              replace HE2 := Lib.hid (HE2.out.below hb)
              replace HE4 := Lib.hid (HE4.out.below hb)
              have HE6 := Lib.hid h6
              clear h6 hc
              clear hb
              clear HX
              go_wp2_with fail
              refine (same9 (over t x) (over t x) a4 a6 cap4 cap6 _ HE4.out HE6.out (by have := over_len x t; have := HRX.out.1; have := HTZ.out.1; unfold maxLen; omega)).mono ?_
              rintro e w9 ⟨rfl, hb⟩
              have HS9 := Lib.hid (HS8.out.next hb)
              replace HK2 := Lib.hid (HK2.out.below hb)
              replace HE2 := Lib.hid (HE2.out.below hb)
              clear hb
              rw [if_pos rfl]
              obtain ⟨b, off, a', cap', e9, hc, hE⟩ := Stk.at HK2.out (Below.refl _ _) hlt
              rw [HXK.out] at hc hE
              cases e9
              have HX := Lib.hid hE
              clear hE
              go_wp2_with fail
              refine (refRight9 x a' cap' _ HX.out HXZ.out.1 HXZ.out.2).mono ?_
              rintro e w10 ⟨rfl, hb⟩
              have HS10 := Lib.hid (HS9.out.next hb)
              replace HK2 := Lib.hid (HK2.out.below hb)
              replace HE2 := Lib.hid (HE2.out.below hb)
              clear hc
              clear hb
              rw [hr1]
              go_wp2
              go_roundg (gk - 1)
              case measure => omega
              case rel => exact ⟨n + 1, by simp, by omega, HRN.out, HK2.out, HE2.out, HS10.out⟩
            | false =>
              have HO := Lib.hid (show ovV t x = [] from if_neg fun h9 => of_decide_eq_false HTV.out h9.1)
              clear hr
              rw [HO.out] at HE4 ⊢
              go_wp2_with fail
              refine (same9 [] [] a4 none cap4 0 _ HE4.out (ents_nil _ _ _) (by unfold maxLen; simp)).mono ?_
              rintro e w8 ⟨rfl, hb⟩
              have HS8 := Lib.hid (HS6.out.next hb)
              replace HK2 := Lib.hid (HK2.out.below hb)
              replace HE2 := Lib.hid (HE2.out.below hb)
              clear hb
              rw [if_pos rfl]
              obtain ⟨b, off, a', cap', e9, hc, hE⟩ := Stk.at HK2.out (Below.refl _ _) hlt
              rw [HXK.out] at hc hE
              cases e9
              have HX := Lib.hid hE
              clear hE
              go_wp2_with fail
              refine (refRight9 x a' cap' _ HX.out HXZ.out.1 HXZ.out.2).mono ?_
              rintro e w10 ⟨rfl, hb⟩
              have HS10 := Lib.hid (HS8.out.next hb)
              replace HK2 := Lib.hid (HK2.out.below hb)
              replace HE2 := Lib.hid (HE2.out.below hb)
              clear hc
              clear hb
              rw [hr1]
              go_wp2
              go_roundg (gk - 1)
              case measure => omega
              case rel => exact ⟨n + 1, by simp, by omega, HRN.out, HK2.out, HE2.out, HS10.out⟩
          · have hr1 := decide_eq_false hr
            have HO := Lib.hid (ov_bad (t := t) hr)
            clear hr
            rw [HO.out] at HE4 ⊢
            cases tv with
            | true =>
              obtain ⟨b, off, a', cap', e9, hc, hE⟩ := Stk.at HK2.out (Below.refl _ _) hlt
              rw [HXK.out] at hc hE
              cases e9
              have HX := Lib.hid hE
              clear hE
              go_wp2_with fail
              refine (refRight9 x a' cap' _ HX.out HXZ.out.1 HXZ.out.2).mono ?_
              rintro e w7 ⟨rfl, hb⟩
              have HS7 := Lib.hid (HS6.out.next hb)
              replace HK2 := Lib.hid (HK2.out.below hb)
              replace HE4 := Lib.hid (HE4.out.below hb)
              clear hc
              clear hb
              rw [hr1]
              clear HX
              go_wp2_with fail
              refine (same9 [] [] a4 none cap4 0 _ HE4.out (ents_nil _ _ _) (by unfold maxLen; simp)).mono ?_
              rintro e w9 ⟨rfl, hb⟩
              have HS9 := Lib.hid (HS7.out.next hb)
              replace HK2 := Lib.hid (HK2.out.below hb)
              clear hb
              rw [if_pos rfl]
              obtain ⟨b, off, a', cap', e9, hc, hE⟩ := Stk.at HK2.out (Below.refl _ _) hlt
              rw [HXK.out] at hc hE
              cases e9
              have HX := Lib.hid hE
              clear hE
              go_wp2_with fail
              refine (refRight9 x a' cap' _ HX.out HXZ.out.1 HXZ.out.2).mono ?_
              rintro e w10 ⟨rfl, hb⟩
              have HS10 := Lib.hid (HS9.out.next hb)
              clear hc
              clear hb
              rw [hr1]
              go_wp2
              go_ret
              exact ⟨by first | rfl | simp, HS10.out.below⟩
            | false =>
              go_wp2_with fail
              refine (same9 [] [] a4 none cap4 0 _ HE4.out (ents_nil _ _ _) (by unfold maxLen; simp)).mono ?_
              rintro e w9 ⟨rfl, hb⟩
              have HS9 := Lib.hid (HS6.out.next hb)
              replace HK2 := Lib.hid (HK2.out.below hb)
              clear hb
              rw [if_pos rfl]
              obtain ⟨b, off, a', cap', e9, hc, hE⟩ := Stk.at HK2.out (Below.refl _ _) hlt
              rw [HXK.out] at hc hE
              cases e9
              have HX := Lib.hid hE
              clear hE
              go_wp2_with fail
              refine (refRight9 x a' cap' _ HX.out HXZ.out.1 HXZ.out.2).mono ?_
              rintro e w10 ⟨rfl, hb⟩
              have HS10 := Lib.hid (HS9.out.next hb)
              clear hc
              clear hb
              rw [hr1]
              go_wp2
              go_ret
              exact ⟨by first | rfl | simp, HS10.out.below⟩
        · have hlt' : ¬ (n : Int) < (S.length : Int) := by omega
          have HRA : Hid (∀ l ∈ S, RightL l) := fun l hl => HR.out l (by rw [List.take_of_length_le (by omega)]; exact hl)
          by_cases h9 : (9 : Int) < (S.length : Int)
          · go_wp2
            go_ret
            exact ⟨by first | rfl | simp, HS4.out.below⟩
          · have HV := Lib.hid (show stV S = stk S from if_pos ⟨by omega, HRA.out⟩)
            go_wp2_with fail
            refine (L.stack S a cap _ HS4.out.env HK2.out HSS.out.1 HSS.out.2).mono ?_
            rintro e w5 ⟨a7, cap7, rfl, h7, hb⟩
            have HS5 := Lib.hid (HS4.out.next hb)
            replace HK2 := Lib.hid (HK2.out.below hb)
            have HE7 := Lib.hid h7
            clear h7
            clear hb
            rw [HV.out] at HE7 ⊢
            go_wp2_with fail
            refine (refStack10 S a cap _ HK2.out H12.out HRA.out).mono ?_
            rintro e w6 ⟨a8, cap8, rfl, h8, hb⟩
            have HS6 := Lib.hid (HS5.out.next hb)
            replace HE7 := Lib.hid (HE7.out.below hb)
            have HE8 := Lib.hid h8
            clear h8
            clear hb
            go_wp2_with fail
            refine (same9 (stk S) (stk S) a7 a8 cap7 cap8 _ HE7.out HE8.out (by have := stk_len HRA.out; have := H12.out; unfold maxLen; omega)).mono ?_
            rintro e w7 ⟨rfl, hb⟩
            have HS7 := Lib.hid (HS6.out.next hb)
            clear hb
            rw [if_pos rfl]
            go_wp2
            go_ret
            exact ⟨by first | rfl | simp, HS7.out.below⟩
    · have hZ1 : (if SizeOK t then (1 : Int) else 0) = 0 := if_neg hz
      clear hz
      go_enter Try.func5, Try.ntmps5
      go_wp2_with fail
      refine (awake10 L _ HS0.out.env).mono ?_
      rintro e w1 ⟨rfl, hb⟩
      have HS1 := Lib.hid (HS0.out.next hb)
      replace HK := Lib.hid (HK.out.below hb)
      replace HE := Lib.hid (HE.out.below hb)
      clear hb
      go_wp2_with fail
      refine (few10 S a cap _ HK.out).mono ?_
      rintro e w9 ⟨rfl, rfl⟩
      rw [hF1]
      go_wp2_with fail
      refine (size9 t a2 cap2 _ HE.out).mono ?_
      rintro e w9 ⟨rfl, rfl⟩
      rw [hZ1]
      go_wp2_with fail
      refine (awake10 L _ HS1.out.env).mono ?_
      rintro e w2 ⟨rfl, hb⟩
      have HS2 := Lib.hid (HS1.out.next hb)
      clear hb
      go_wp2
      go_ret
      exact ⟨by first | rfl | simp, HS2.out.below⟩
  · have hF1 : (if FewOK S then (1 : Int) else 0) = 0 := if_neg hf
    clear hf
    go_enter Try.func5, Try.ntmps5
    go_wp2_with fail
    refine (awake10 L _ HS0.out.env).mono ?_
    rintro e w1 ⟨rfl, hb⟩
    have HS1 := Lib.hid (HS0.out.next hb)
    replace HK := Lib.hid (HK.out.below hb)
    replace HE := Lib.hid (HE.out.below hb)
    clear hb
    go_wp2_with fail
    refine (few10 S a cap _ HK.out).mono ?_
    rintro e w9 ⟨rfl, rfl⟩
    rw [hF1]
    go_wp2_with fail
    refine (awake10 L _ HS1.out.env).mono ?_
    rintro e w2 ⟨rfl, hb⟩
    have HS2 := Lib.hid (HS1.out.next hb)
    clear hb
    go_wp2
    go_ret
    exact ⟨by first | rfl | simp, HS2.out.below⟩
end Go.Proofs.Ytkannambildnoaa
