/-
  The law ListParts walked over Names13 and Empty13: for every stack and text it returns true and changes nothing that was there. Conditions: package list answers as Names13 and Empty13 say, fold.Stack as Stack13; the stack lies in memory; errorType holds error's type.
-/
import Derived.Test.YtemnlolkmjdefaaGreatDoorS13Awake
import Derived.Test.YtemnlolkmjdefaaGreatDoorS12Few
import Derived.Test.YtemnlolkmjdefaaGreatDoorS13Par
import Derived.IntWalk
import Derived.Deep.LoopGhost
namespace Go.Proofs.YtemnlolkmjdefaaGreatDoor
open Go.RowKit

theorem nav_ok {S : List (List Ent)} {p : List UInt8} (h : (naV S p).1 = 0) : LkOK S := by
  by_cases h1 : LkOK S
  · exact h1
  · unfold naV drV at h
    rw [lkV_bad h1] at h
    cases h
theorem nav_names {S : List (List Ent)} {p : List UInt8} (h : (naV S p).1 = 0) : (naV S p).2 = nmB (stk S) p := by
  unfold naV at h ⊢
  split at h
  · rename_i h1
    exact absurd h h1
  · rename_i h1
    rw [if_neg h1]
set_option maxRecDepth 10000 in
set_option maxHeartbeats 8000000 in
theorem lawParts13 (LN : Names13) (LE : Empty13) (LF : Stack13) (S : List (List Ent)) (p : ByteArray) (a : Option Addr) (cap : Nat) (W : World) (hg : EtLaid W) (hk : Stk W a cap S) : Calls Tryz.prog 6 #[.slice a S.length cap, .string p] W fun e w' => e = .returned (.bool true) ∧ Below W.heap.size W w' := by
  have HS0 := Lib.hid (st_self hg)
  have HK := Lib.hid hk
  clear hg hk
  by_cases hf : FewOK S
  · have hF1 : (if FewOK S then (1 : Int) else 0) = 1 := if_pos hf
    have HFW := Lib.hid hf
    have HSS := Lib.hid (few_sm12 hf)
    clear hf
    by_cases hp : (100 : Int) < (p.size : Int)
    · go_enter Tryz.func6, Tryz.ntmps6
      go_wp2_with fail
      refine (awake13 LN _ HS0.out.et).mono ?_
      rintro e w1 ⟨rfl, hb⟩
      have HS1 := Lib.hid (HS0.out.next hb)
      replace HK := Lib.hid (HK.out.below hb)
      clear hb
      go_wp2_with fail
      refine (few10 S a cap _ HK.out).mono ?_
      rintro e w9 ⟨rfl, rfl⟩
      rw [hF1]
      go_wp2_with fail
      refine (awake13 LN _ HS1.out.et).mono ?_
      rintro e w2 ⟨rfl, hb⟩
      have HS2 := Lib.hid (HS1.out.next hb)
      replace HK := Lib.hid (HK.out.below hb)
      clear hb
      go_wp2
      go_ret
      exact ⟨by first | rfl | simp, HS2.out.below⟩
    · have HP := Lib.hid (show p.size ≤ 100 by omega)
      obtain ⟨r, hr⟩ : ∃ r, naV S p.data.toList = r := ⟨_, rfl⟩
      have HNM : Hid (∀ w, EtLaid w → Stk w a cap S → Calls Tryz.prog 11 #[.slice a S.length cap, .string p] w fun e w' => ∃ a' cap' er, e = .returned (.tuple #[.slice a' r.2.length cap', er]) ∧ Row w' a' cap' r.2 ∧ Er w' r.1 er ∧ Below w.heap.size w w') := fun w h1 h2 => by
        have := LN S a cap p w h1 h2 HSS.out.1 HSS.out.2 (by have := HP.out; omega)
        rw [hr] at this
        exact this
      have HEM : Hid (∀ w, EtLaid w → Stk w a cap S → Calls Tryz.prog 12 #[.slice a S.length cap, .string p] w fun e w' => ∃ er, e = .returned (.tuple #[.bool (decide (r.1 = 0 ∧ r.2 = [])), er]) ∧ Er w' r.1 er ∧ Below w.heap.size w w') := fun w h1 h2 => by
        have := LE S a cap p w h1 h2 HSS.out.1 HSS.out.2 (by have := HP.out; omega)
        rw [hr] at this
        exact this
      obtain ⟨n1, N⟩ := r
      by_cases h0 : n1 = 0
      · subst h0
        have hok := nav_ok (S := S) (p := p.data.toList) (by rw [hr])
        have HNN := Lib.hid (show nmB (stk S) p.data.toList = N by rw [← nav_names (S := S) (p := p.data.toList) (by rw [hr]), hr])
        have HWK := Lib.hid (show wkV S = stk S from if_pos hok)
        have HTR := Lib.hid (tr_stk hok.2)
        have HTL := Lib.hid (show (stk S).length ≤ 576 by have := stk_len hok.2; have := hok.1; omega)
        obtain ⟨T, hT⟩ : ∃ T, stk S = T := ⟨_, rfl⟩
        rw [hT] at HNN HWK HTR HTL
        clear hr hok hT
        by_cases hN : N = []
        · subst hN
          rw [decide_eq_true (show ((0 : Int), ([] : List ByteArray)).1 = 0 ∧ ((0 : Int), ([] : List ByteArray)).2 = [] from ⟨rfl, rfl⟩)] at HEM
          go_enter Tryz.func6, Tryz.ntmps6
          go_wp2_with fail
          refine (awake13 LN _ HS0.out.et).mono ?_
          rintro e w1 ⟨rfl, hb⟩
          have HS1 := Lib.hid (HS0.out.next hb)
          replace HK := Lib.hid (HK.out.below hb)
          clear hb
          go_wp2_with fail
          refine (few10 S a cap _ HK.out).mono ?_
          rintro e w9 ⟨rfl, rfl⟩
          rw [hF1]
          go_wp2_with fail
          refine (HEM.out _ HS1.out.et HK.out).mono ?_
          rintro e w2 ⟨er2, rfl, e9, hb⟩
          have HE2 := Lib.hid e9
          clear e9
          have HS2 := Lib.hid (HS1.out.next hb)
          replace HK := Lib.hid (HK.out.below hb)
          clear hb
          go_wp2_with fail
          refine (code_er _ _ _ HE2.out HS2.out.et).mono ?_
          rintro e w3 ⟨rfl, hb⟩
          have HS3 := Lib.hid (HS2.out.next hb)
          replace HK := Lib.hid (HK.out.below hb)
          replace HE2 := Lib.hid (HE2.out.below hb)
          clear hb
          go_wp2_with fail
          refine (LF S a cap _ HK.out HSS.out.2).mono ?_
          rintro e w4 ⟨a2, c2, rfl, h9, hb⟩
          rw [HWK.out] at h9 ⊢
          have HA := Lib.hid h9
          clear h9
          have HS4 := Lib.hid (HS3.out.next hb)
          replace HK := Lib.hid (HK.out.below hb)
          replace HE2 := Lib.hid (HE2.out.below hb)
          clear hb
          go_wp2
          go_loopg [8, 9] T.length (fun g u j wx => ∃ k : Nat, u = .int .i64 ((nmB (T.take k) p.data.toList).length : Int) ∧ j = .int .i64 (k : Int) ∧ k + g = T.length ∧ Hid (Ents wx a2 c2 T) ∧ Hid (Stk wx a cap S) ∧ Hid (St W wx))
          case atStart => exact ⟨0, rfl, rfl, by omega, HA.out, HK.out, HS4.out⟩
          case round =>
            obtain ⟨k, rfl, rfl, hk, HAX, HKX, HSX⟩ := hrel
            have htl := HTL.out
            have hw : IntKind.i64.wrap ((k : Int) + 1) = (k : Int) + 1 := IntWalk.i64_in _ (by omega)
            by_cases hlt : k < T.length
            · have hlt' : (k : Int) < (T.length : Int) := by omega
              obtain ⟨b, off, rfl, _, hc⟩ := Ents.at HAX.out (Below.refl _ _) hlt
              have HXR := Lib.hid (rE_isP (HTR.out.1.1 _ (List.getElem_mem hlt)))
              have HNT := Lib.hid (nmB_take T p.data.toList hlt)
              have hnl := nmB_len (T.take k) p.data.toList
              rw [List.length_take] at hnl
              obtain ⟨x, hx⟩ : ∃ x, T[k] = x := ⟨_, rfl⟩
              rw [hx] at hc HXR HNT
              have c0 := hc.c0
              clear hc hx
              obtain ⟨c, hcn⟩ : ∃ c, (nmB (T.take k) p.data.toList).length = c := ⟨_, rfl⟩
              rw [hcn] at hnl ⊢
              have hwc : IntKind.i64.wrap ((c : Int) + 1) = (c : Int) + 1 := IntWalk.i64_in _ (by omega)
              have HCN := Lib.hid hcn
              clear hcn
              go_wp2_with fail
              refine (parent13 x.1 HXR.out.1 HXR.out.2 _).mono ?_
              rintro e w91 ⟨d, m, rfl, hd, _, hb⟩
              have HSY := Lib.hid (HSX.out.next hb)
              have HAY := Lib.hid (RowN.below HAX.out hb)
              have HKY := Lib.hid (HKX.out.below hb)
              have HD := Lib.hid hd
              clear hb hd c0
              go_wp2_with fail
              refine (code_er 0 _ _ (er_nil _) HSY.out.et).mono ?_
              rintro e w92 ⟨rfl, hb⟩
              have HSZ := Lib.hid (HSY.out.next hb)
              have HAZ := Lib.hid (RowN.below HAY.out hb)
              have HKZ := Lib.hid (HKY.out.below hb)
              clear hb
              by_cases hp : par9 (pl x) = p.data.toList
              · have gp : (d.toList == p.toList) = true := by rw [Lib.toList_data, Lib.toList_data, HD.out, beq_iff_eq]; exact hp
                have HCC := Lib.hid (show (nmB (T.take (k + 1)) p.data.toList).length = c + 1 by rw [HNT.out, if_pos hp, List.length_append, HCN.out]; rfl)
                clear hp
                go_wp2
                go_roundg (gk - 1)
                case measure => omega
                case rel => exact ⟨k + 1, by rw [HCC.out]; simp, by simp, by omega, HAZ.out, HKZ.out, HSZ.out⟩
              · have gp : (d.toList == p.toList) = false := by rw [Lib.toList_data, Lib.toList_data, HD.out, beq_eq_false_iff_ne]; exact hp
                have HCC := Lib.hid (show (nmB (T.take (k + 1)) p.data.toList).length = c by rw [HNT.out, if_neg hp, HCN.out])
                clear hp
                go_wp2
                go_roundg (gk - 1)
                case measure => omega
                case rel => exact ⟨k + 1, by rw [HCC.out], by simp, by omega, HAZ.out, HKZ.out, HSZ.out⟩
            · have hlt' : ¬ (k : Int) < (T.length : Int) := by omega
              have hnt : (nmB (T.take k) p.data.toList).length = 0 := by rw [List.take_of_length_le (by omega), HNN.out]; rfl
              rw [hnt]
              clear hnt
              go_wp2_with fail
              refine (HNM.out _ HSX.out.et HKX.out).mono ?_
              rintro e w93 ⟨a3, c3, er3, rfl, _, e9, hb⟩
              have HSY := Lib.hid (HSX.out.next hb)
              have HE3 := Lib.hid e9
              clear e9 hb
              go_wp2_with fail
              refine (code_er _ _ _ HE3.out HSY.out.et).mono ?_
              rintro e w94 ⟨rfl, hb⟩
              have HSZ := Lib.hid (HSY.out.next hb)
              clear hb
              go_wp2
              go_ret
              exact ⟨by first | rfl | simp, HSZ.out.below⟩
        · have hz : ((N.length : Int) == 0) = false := by rw [beq_eq_false_iff_ne]; have := List.length_pos_iff.2 hN; omega
          rw [decide_eq_false (show ¬ (((0 : Int), N).1 = 0 ∧ ((0 : Int), N).2 = []) from fun h => hN h.2)] at HEM
          clear hN
          go_enter Tryz.func6, Tryz.ntmps6
          go_wp2_with fail
          refine (awake13 LN _ HS0.out.et).mono ?_
          rintro e w1 ⟨rfl, hb⟩
          have HS1 := Lib.hid (HS0.out.next hb)
          replace HK := Lib.hid (HK.out.below hb)
          clear hb
          go_wp2_with fail
          refine (few10 S a cap _ HK.out).mono ?_
          rintro e w9 ⟨rfl, rfl⟩
          rw [hF1]
          go_wp2_with fail
          refine (HEM.out _ HS1.out.et HK.out).mono ?_
          rintro e w2 ⟨er2, rfl, e9, hb⟩
          have HE2 := Lib.hid e9
          clear e9
          have HS2 := Lib.hid (HS1.out.next hb)
          replace HK := Lib.hid (HK.out.below hb)
          clear hb
          go_wp2_with fail
          refine (code_er _ _ _ HE2.out HS2.out.et).mono ?_
          rintro e w3 ⟨rfl, hb⟩
          have HS3 := Lib.hid (HS2.out.next hb)
          replace HK := Lib.hid (HK.out.below hb)
          replace HE2 := Lib.hid (HE2.out.below hb)
          clear hb
          go_wp2_with fail
          refine (LF S a cap _ HK.out HSS.out.2).mono ?_
          rintro e w4 ⟨a2, c2, rfl, h9, hb⟩
          rw [HWK.out] at h9 ⊢
          have HA := Lib.hid h9
          clear h9
          have HS4 := Lib.hid (HS3.out.next hb)
          replace HK := Lib.hid (HK.out.below hb)
          replace HE2 := Lib.hid (HE2.out.below hb)
          clear hb
          go_wp2
          go_loopg [8, 9] T.length (fun g u j wx => ∃ k : Nat, u = .int .i64 ((nmB (T.take k) p.data.toList).length : Int) ∧ j = .int .i64 (k : Int) ∧ k + g = T.length ∧ Hid (Ents wx a2 c2 T) ∧ Hid (Stk wx a cap S) ∧ Hid (St W wx))
          case atStart => exact ⟨0, rfl, rfl, by omega, HA.out, HK.out, HS4.out⟩
          case round =>
            obtain ⟨k, rfl, rfl, hk, HAX, HKX, HSX⟩ := hrel
            have htl := HTL.out
            have hw : IntKind.i64.wrap ((k : Int) + 1) = (k : Int) + 1 := IntWalk.i64_in _ (by omega)
            by_cases hlt : k < T.length
            · have hlt' : (k : Int) < (T.length : Int) := by omega
              obtain ⟨b, off, rfl, _, hc⟩ := Ents.at HAX.out (Below.refl _ _) hlt
              have HXR := Lib.hid (rE_isP (HTR.out.1.1 _ (List.getElem_mem hlt)))
              have HNT := Lib.hid (nmB_take T p.data.toList hlt)
              have hnl := nmB_len (T.take k) p.data.toList
              rw [List.length_take] at hnl
              obtain ⟨x, hx⟩ : ∃ x, T[k] = x := ⟨_, rfl⟩
              rw [hx] at hc HXR HNT
              have c0 := hc.c0
              clear hc hx
              obtain ⟨c, hcn⟩ : ∃ c, (nmB (T.take k) p.data.toList).length = c := ⟨_, rfl⟩
              rw [hcn] at hnl ⊢
              have hwc : IntKind.i64.wrap ((c : Int) + 1) = (c : Int) + 1 := IntWalk.i64_in _ (by omega)
              have HCN := Lib.hid hcn
              clear hcn
              go_wp2_with fail
              refine (parent13 x.1 HXR.out.1 HXR.out.2 _).mono ?_
              rintro e w91 ⟨d, m, rfl, hd, _, hb⟩
              have HSY := Lib.hid (HSX.out.next hb)
              have HAY := Lib.hid (RowN.below HAX.out hb)
              have HKY := Lib.hid (HKX.out.below hb)
              have HD := Lib.hid hd
              clear hb hd c0
              go_wp2_with fail
              refine (code_er 0 _ _ (er_nil _) HSY.out.et).mono ?_
              rintro e w92 ⟨rfl, hb⟩
              have HSZ := Lib.hid (HSY.out.next hb)
              have HAZ := Lib.hid (RowN.below HAY.out hb)
              have HKZ := Lib.hid (HKY.out.below hb)
              clear hb
              by_cases hp : par9 (pl x) = p.data.toList
              · have gp : (d.toList == p.toList) = true := by rw [Lib.toList_data, Lib.toList_data, HD.out, beq_iff_eq]; exact hp
                have HCC := Lib.hid (show (nmB (T.take (k + 1)) p.data.toList).length = c + 1 by rw [HNT.out, if_pos hp, List.length_append, HCN.out]; rfl)
                clear hp
                go_wp2
                go_roundg (gk - 1)
                case measure => omega
                case rel => exact ⟨k + 1, by rw [HCC.out]; simp, by simp, by omega, HAZ.out, HKZ.out, HSZ.out⟩
              · have gp : (d.toList == p.toList) = false := by rw [Lib.toList_data, Lib.toList_data, HD.out, beq_eq_false_iff_ne]; exact hp
                have HCC := Lib.hid (show (nmB (T.take (k + 1)) p.data.toList).length = c by rw [HNT.out, if_neg hp, HCN.out])
                clear hp
                go_wp2
                go_roundg (gk - 1)
                case measure => omega
                case rel => exact ⟨k + 1, by rw [HCC.out], by simp, by omega, HAZ.out, HKZ.out, HSZ.out⟩
            · have hlt' : ¬ (k : Int) < (T.length : Int) := by omega
              have hnt : (nmB (T.take k) p.data.toList).length = N.length := by rw [List.take_of_length_le (by omega), HNN.out]
              rw [hnt]
              clear hnt
              go_wp2_with fail
              refine (HNM.out _ HSX.out.et HKX.out).mono ?_
              rintro e w93 ⟨a3, c3, er3, rfl, _, e9, hb⟩
              have HSY := Lib.hid (HSX.out.next hb)
              have HE3 := Lib.hid e9
              clear e9 hb
              go_wp2_with fail
              refine (code_er _ _ _ HE3.out HSY.out.et).mono ?_
              rintro e w94 ⟨rfl, hb⟩
              have HSZ := Lib.hid (HSY.out.next hb)
              clear hb
              go_wp2
              go_ret
              exact ⟨by first | rfl | simp, HSZ.out.below⟩
      · have g0 : (n1 == 0) = false := beq_eq_false_iff_ne.2 h0
        rw [decide_eq_false (show ¬ ((n1, N).1 = 0 ∧ (n1, N).2 = []) from fun h => h0 h.1)] at HEM
        clear h0 hr
        go_enter Tryz.func6, Tryz.ntmps6
        go_wp2_with fail
        refine (awake13 LN _ HS0.out.et).mono ?_
        rintro e w1 ⟨rfl, hb⟩
        have HS1 := Lib.hid (HS0.out.next hb)
        replace HK := Lib.hid (HK.out.below hb)
        clear hb
        go_wp2_with fail
        refine (few10 S a cap _ HK.out).mono ?_
        rintro e w9 ⟨rfl, rfl⟩
        rw [hF1]
        go_wp2_with fail
        refine (HEM.out _ HS1.out.et HK.out).mono ?_
        rintro e w2 ⟨er2, rfl, e9, hb⟩
        have HE2 := Lib.hid e9
        clear e9
        have HS2 := Lib.hid (HS1.out.next hb)
        replace HK := Lib.hid (HK.out.below hb)
        clear hb
        go_wp2_with fail
        refine (code_er _ _ _ HE2.out HS2.out.et).mono ?_
        rintro e w3 ⟨rfl, hb⟩
        have HS3 := Lib.hid (HS2.out.next hb)
        replace HK := Lib.hid (HK.out.below hb)
        replace HE2 := Lib.hid (HE2.out.below hb)
        clear hb
        go_wp2
        go_ret
        exact ⟨by first | rfl | simp, HS3.out.below⟩
  · have hF1 : (if FewOK S then (1 : Int) else 0) = 0 := if_neg hf
    clear hf
    go_enter Tryz.func6, Tryz.ntmps6
    go_wp2_with fail
    refine (awake13 LN _ HS0.out.et).mono ?_
    rintro e w1 ⟨rfl, hb⟩
    have HS1 := Lib.hid (HS0.out.next hb)
    replace HK := Lib.hid (HK.out.below hb)
    clear hb
    go_wp2_with fail
    refine (few10 S a cap _ HK.out).mono ?_
    rintro e w9 ⟨rfl, rfl⟩
    rw [hF1]
    go_wp2_with fail
    refine (awake13 LN _ HS1.out.et).mono ?_
    rintro e w2 ⟨rfl, hb⟩
    have HS2 := Lib.hid (HS1.out.next hb)
    replace HK := Lib.hid (HK.out.below hb)
    clear hb
    go_wp2
    go_ret
    exact ⟨by first | rfl | simp, HS2.out.below⟩
end Go.Proofs.YtemnlolkmjdefaaGreatDoor
