/-
  The law EditRuns walked over Do14, On14, Right14, Stack14: for every stack and list of ops it returns true and changes nothing that was there. Conditions: package edit answers as Do14 and On14 say, layer.Right and fold.Stack as Right14, Stack14; the stack and the ops lie in memory; errorType holds error's type.
-/
import Derived.Test.YtjliagcalbdnhaaGreatDoorS14Awake
import Derived.Test.YtjliagcalbdnhaaGreatDoorS14With
import Derived.Test.YtjliagcalbdnhaaGreatDoorS12Few
import Derived.Test.YtjliagcalbdnhaaGreatDoorPc
import Derived.Deep.LoopGhost
namespace Go.Proofs.YtjliagcalbdnhaaGreatDoor
open Go.RowKit

set_option maxRecDepth 10000 in
set_option maxHeartbeats 16000000 in
theorem lawRuns14 (LD : Do14) (LO : On14) (LR : Right14) (LF : Stack14) (S : List (List Ent)) (a : Option Addr) (cap : Nat) (l : List Op11) (a2 : Option Addr) (cap2 : Nat) (W : World) (hg : EtLaid W) (hk : Stk W a cap S) (hl : Ops W a2 cap2 l) (hok : ∀ x ∈ l, opOK x) :
    Calls Tryz.prog 3 #[.slice a S.length cap, .slice a2 l.length cap2] W fun e w' => e = .returned (.bool true) ∧ Below W.heap.size W w' := by
  have HS0 := Lib.hid (st_self hg)
  have HK := Lib.hid hk
  have HO := Lib.hid hl
  have HOK := Lib.hid hok
  have HCAP := Lib.hid hl.1
  clear hg hk hl hok
  have HLF : Hid (∀ (U T : List Ent) a' c' w, EtLaid w → Stk w a' c' (S ++ [U]) → OK14 (S ++ [U]) → stk (S ++ [U]) = T → Calls Tryz.prog 10 #[.slice a' (S.length + 1) c'] w fun e w' => ∃ a'' cap'', e = .returned (.slice a'' T.length cap'') ∧ Ents w' a'' cap'' T ∧ Below w.heap.size w w') := fun U T a' c' w h1 h2 h3 h4 => by
    have := LF (S ++ [U]) a' c' w h1 h2 (ok_sm h3).1 (ok_sm h3).2
    rw [(ok_stk h3).1, List.length_append, h4] at this
    exact this
  by_cases hf : FewOK S
  · have hF1 : (if FewOK S then (1 : Int) else 0) = 1 := if_pos hf
    have HFW := Lib.hid hf
    have HSS := Lib.hid (few_sm12 hf)
    clear hf
    by_cases h25 : (25 : Int) < (l.length : Int)
    · go_enter Tryz.func3, Tryz.ntmps3
      go_wp2_with fail
      refine (awake14 LD _ HS0.out.et).mono ?_
      rintro e w1 ⟨rfl, hb⟩
      have HS1 := Lib.hid (HS0.out.next hb)
      replace HK := Lib.hid (HK.out.below hb)
      clear hb
      go_wp2_with fail
      refine (few10 S a cap _ HK.out).mono ?_
      rintro e w9 ⟨rfl, rfl⟩
      rw [hF1]
      go_wp2_with fail
      refine (awake14 LD _ HS1.out.et).mono ?_
      rintro e w2 ⟨rfl, hb⟩
      have HS2 := Lib.hid (HS1.out.next hb)
      clear hb
      go_wp2
      go_ret
      exact ⟨by first | rfl | simp, HS2.out.below⟩
    · have HL25 := Lib.hid (show l.length ≤ 25 by omega)
      go_enter Tryz.func3, Tryz.ntmps3
      go_wp2_with fail
      refine (awake14 LD _ HS0.out.et).mono ?_
      rintro e w1 ⟨rfl, hb⟩
      have HS1 := Lib.hid (HS0.out.next hb)
      replace HK := Lib.hid (HK.out.below hb)
      replace HO := Lib.hid (RowN.below HO.out hb)
      clear hb
      go_wp2_with fail
      refine (few10 S a cap _ HK.out).mono ?_
      rintro e w9 ⟨rfl, rfl⟩
      rw [hF1]
      go_wp2
      go_loopg [5] S.length (fun g i wx => ∃ k : Nat, i = .int .i64 (k : Int) ∧ k + g = S.length ∧ Hid (∀ l ∈ S.take k, RightL l) ∧ Hid (0 < k → S.length ≤ 8) ∧ Hid (Stk wx a cap S) ∧ Hid (Ops wx a2 cap2 l) ∧ Hid (St W wx))
      case atStart => exact ⟨0, rfl, by omega, by simp [Hid], by simp [Hid], HK.out, HO.out, HS1.out⟩
      case round =>
        clear HK HO
        obtain ⟨k, rfl, hk, HI, H8, HK, HO, HS0⟩ := hrel
        have hw : IntKind.i64.wrap ((k : Int) + 1) = (k : Int) + 1 := IntWalk.i64_in _ (by have := HSS.out.1; omega)
        by_cases hlt : k < S.length
        · have hlt' : (k : Int) < (S.length : Int) := by omega
          obtain ⟨b, off, a', cap', rfl, hc, hE⟩ := Stk.at HK.out (Below.refl _ _) hlt
          have HT := Lib.hid (take_get S k hlt)
          have HM := Lib.hid (List.getElem_mem hlt)
          obtain ⟨x, hx⟩ : ∃ x, S[k] = x := ⟨_, rfl⟩
          rw [hx] at hc hE HT HM
          have HC := Lib.hid (LR x a' cap' wr HS0.out.et hE (HSS.out.2 x HM.out))
          clear hE hx
          by_cases hq : RightL x
          · rw [decide_eq_true hq] at HC
            have HN := Lib.hid (show ∀ l ∈ S.take (k + 1), RightL l from fun l hl => by
              rw [HT.out] at hl
              rcases List.mem_append.1 hl with hl | hl
              · exact HI.out l hl
              · obtain rfl : l = x := by simpa using hl
                exact hq)
            clear hq
            go_wp2_with fail
            refine (HC.out).mono ?_
            rintro e w1 ⟨rfl, hb⟩
            have HS1 := Lib.hid (HS0.out.next hb)
            replace HK := Lib.hid (HK.out.below hb)
            replace HO := Lib.hid (RowN.below HO.out hb)
            clear hb hc
            by_cases h8 : (8 : Int) < (S.length : Int)
            · go_wp2
              go_ret
              exact ⟨by first | rfl | simp, HS1.out.below⟩
            · go_wp2
              go_roundg (gk - 1)
              case measure => omega
              case rel => exact ⟨k + 1, by simp, by omega, HN.out, fun _ => by omega, HK.out, HO.out, HS1.out⟩
          · rw [decide_eq_false hq] at HC
            clear hq
            go_wp2_with fail
            refine (HC.out).mono ?_
            rintro e w1 ⟨rfl, hb⟩
            have HS1 := Lib.hid (HS0.out.next hb)
            clear hb hc
            go_wp2
            go_ret
            exact ⟨by first | rfl | simp, HS1.out.below⟩
        · have hlt' : ¬ (k : Int) < (S.length : Int) := by omega
          have HL8 := Lib.hid (show S.length ≤ 8 by
            by_cases h0 : 0 < k
            · exact H8.out h0
            · omega)
          have HOKS := Lib.hid (show OK14 (S ++ [[]]) from ⟨by have := HL8.out; simp; omega, fun x hx => by
            rcases List.mem_append.1 hx with hx | hx
            · exact HI.out x (by rw [List.take_of_length_le (by omega)]; exact hx)
            · obtain rfl : x = [] := by simpa using hx
              exact right_nil14⟩)
          clear hlt HI H8 hw
          go_wp2_with fail
          refine (with14 S [] a none cap 0 _ HK.out (ents_nil _ _ _) HSS.out.1).mono ?_
          rintro e w1 ⟨a5, c5, rfl, h9, hb⟩
          have HS1 := Lib.hid (HS0.out.next hb)
          replace HK := Lib.hid (HK.out.below hb)
          replace HO := Lib.hid (RowN.below HO.out hb)
          have HT := Lib.hid h9
          clear h9
          clear hb
          obtain ⟨T0, hT0⟩ : ∃ T, stk (S ++ [[]]) = T := ⟨_, rfl⟩
          have HT0 := Lib.hid hT0
          clear hT0
          go_wp2_with fail
          refine (HLF.out [] T0 a5 c5 _ HS1.out.et HT.out HOKS.out HT0.out).mono ?_
          rintro e w2 ⟨a6, c6, rfl, h9, hb⟩
          have HS2 := Lib.hid (HS1.out.next hb)
          replace HK := Lib.hid (HK.out.below hb)
          replace HO := Lib.hid (RowN.below HO.out hb)
          have HET := Lib.hid h9
          clear h9
          clear hb
          go_wp2
          go_loopg [6, 7, 8] l.length (fun g u t i wx => ∃ (k : Nat) (a3 : Option Addr) (cap3 : Nat) (U : List Ent) (a4 : Option Addr) (cap4 : Nat) (T : List Ent), u = .slice a3 U.length cap3 ∧ t = .slice a4 T.length cap4 ∧ i = .int .i64 (k : Int) ∧ k + g = l.length ∧ Hid (Ents wx a3 cap3 U) ∧ Hid (Ents wx a4 cap4 T) ∧ Hid (OK14 (S ++ [U])) ∧ Hid (stk (S ++ [U]) = T) ∧ Hid (Stk wx a cap S) ∧ Hid (Ops wx a2 cap2 l) ∧ Hid (St W wx))
          case atStart => exact ⟨0, none, 0, [], a6, c6, T0, rfl, rfl, rfl, by omega, ents_nil _ _ _, HET.out, HOKS.out, HT0.out, HK.out, HO.out, HS2.out⟩
          case round =>
            clear HK HO HET HT HOKS HT0
            obtain ⟨k, a3, cap3, U, a4, cap4, T, rfl, rfl, rfl, hk, HEU, HET, HOKU, HTK, HK, HO, HS0⟩ := hrel
            have hw : IntKind.i64.wrap ((k : Int) + 1) = (k : Int) + 1 := IntWalk.i64_in _ (by have := HL25.out; omega)
            have HSU := Lib.hid (sm_right14 (ok_low HOKU.out).2.1)
            by_cases hlt : k < l.length
            · have hlt' : (k : Int) < (l.length : Int) := by omega
              have hkc : (k : Int) ≤ (cap2 : Int) := by have := HCAP.out; omega
              have HTT := Lib.hid (show TreeL T ∧ T.length ≤ 576 by rw [← HTK.out]; exact (ok_stk HOKU.out).2)
              obtain ⟨b, off, e9, _, hc⟩ := Ops.at HO.out (Below.refl _ _) hlt
              have HX := Lib.hid (HOK.out _ (List.getElem_mem hlt))
              obtain ⟨o, ho⟩ : ∃ o, l[k] = o := ⟨_, rfl⟩
              rw [ho] at hc HX
              have HXK := Lib.hid ho
              clear ho
              subst e9
              have c0 := hc.c0
              have c1 := hc.c1
              have c2 := hc.c2
              have c3 := hc.c3
              have c4 := hc.c4
              clear hc
              by_cases hf : FewO o
              · go_wp2_with fail
                refine (few11 o _).mono ?_
                rintro e w1 ⟨rfl, hb⟩
                have HS1 := Lib.hid (HS0.out.next hb)
                replace HK := Lib.hid (HK.out.below hb)
                replace HO := Lib.hid (RowN.below HO.out hb)
                replace HEU := Lib.hid (RowN.below HEU.out hb)
                replace HET := Lib.hid (RowN.below HET.out hb)
                clear hb
                rw [if_pos hf]
                have HF := Lib.hid hf
                clear hf
                clear c0 c1 c2 c3 c4
                obtain ⟨b9, off9, e9, _, hc⟩ := Ops.at HO.out (Below.refl _ _) hlt
                rw [HXK.out] at hc
                cases e9
                have c0 := hc.c0
                have c1 := hc.c1
                have c2 := hc.c2
                have c3 := hc.c3
                have c4 := hc.c4
                clear hc
                go_wp2_with fail
                refine (of14 o _).mono ?_
                rintro e w2 ⟨rfl, hb⟩
                have HS2 := Lib.hid (HS1.out.next hb)
                replace HK := Lib.hid (HK.out.below hb)
                replace HO := Lib.hid (RowN.below HO.out hb)
                replace HEU := Lib.hid (RowN.below HEU.out hb)
                replace HET := Lib.hid (RowN.below HET.out hb)
                clear hb
                clear c0 c1 c2 c3 c4
                have HED := Lib.hid (ed_runs (o := o) HOKU.out)
                rw [HTK.out] at HED
                have HZX := Lib.hid (fun (h : (edV S U o).1 ≠ 0) => ed_err h)
                obtain ⟨res, hres⟩ : ∃ res, edV S U o = res := ⟨_, rfl⟩
                obtain ⟨res2, hres2⟩ : ∃ res, onV T o = res := ⟨_, rfl⟩
                have HRS := Lib.hid hres
                have HRS2 := Lib.hid hres2
                rw [hres, hres2] at HED
                clear hres hres2 HZX
                obtain ⟨n1, X⟩ := res
                obtain ⟨n2, Y⟩ := res2
                go_wp2_with fail
                refine (LD S a cap U a3 cap3 o _ HS2.out.et HK.out HEU.out HSS.out.1 HSS.out.2 HSU.out HF.out HX.out).mono ?_
                rw [HRS.out]
                rintro e w3 ⟨a7, c7, er, rfl, h9, e9, hb⟩
                have HS3 := Lib.hid (HS2.out.next hb)
                replace HK := Lib.hid (HK.out.below hb)
                replace HO := Lib.hid (RowN.below HO.out hb)
                replace HEU := Lib.hid (RowN.below HEU.out hb)
                replace HET := Lib.hid (RowN.below HET.out hb)
                have HEX := Lib.hid h9
                have HER := Lib.hid e9
                clear h9 e9
                clear hb
                obtain ⟨b9, off9, e9, _, hc⟩ := Ops.at HO.out (Below.refl _ _) hlt
                rw [HXK.out] at hc
                cases e9
                have c0 := hc.c0
                have c1 := hc.c1
                have c2 := hc.c2
                have c3 := hc.c3
                have c4 := hc.c4
                clear hc
                go_wp2_with fail
                refine (of14 o _).mono ?_
                rintro e w4 ⟨rfl, hb⟩
                have HS4 := Lib.hid (HS3.out.next hb)
                replace HK := Lib.hid (HK.out.below hb)
                replace HO := Lib.hid (RowN.below HO.out hb)
                replace HEU := Lib.hid (RowN.below HEU.out hb)
                replace HET := Lib.hid (RowN.below HET.out hb)
                replace HEX := Lib.hid (RowN.below HEX.out hb)
                replace HER := Lib.hid (HER.out.below hb)
                clear hb
                clear c0 c1 c2 c3 c4
                go_wp2_with fail
                refine (LO T a4 cap4 o _ HS4.out.et HET.out HTT.out.1 (by have := HTT.out.2; omega) HF.out HX.out).mono ?_
                rw [HRS2.out]
                rintro e w5 ⟨a8, c8, er2, rfl, h9, e9, hb⟩
                have HS5 := Lib.hid (HS4.out.next hb)
                replace HK := Lib.hid (HK.out.below hb)
                replace HO := Lib.hid (RowN.below HO.out hb)
                replace HEU := Lib.hid (RowN.below HEU.out hb)
                replace HET := Lib.hid (RowN.below HET.out hb)
                replace HEX := Lib.hid (RowN.below HEX.out hb)
                replace HER := Lib.hid (HER.out.below hb)
                have HEY := Lib.hid h9
                have HER2 := Lib.hid e9
                clear h9 e9
                clear hb
                go_wp2_with fail
                refine (code_er _ _ _ HER.out HS5.out.et).mono ?_
                rintro e w6 ⟨rfl, hb⟩
                have HS6 := Lib.hid (HS5.out.next hb)
                replace HK := Lib.hid (HK.out.below hb)
                replace HO := Lib.hid (RowN.below HO.out hb)
                replace HEU := Lib.hid (RowN.below HEU.out hb)
                replace HET := Lib.hid (RowN.below HET.out hb)
                replace HEX := Lib.hid (RowN.below HEX.out hb)
                replace HER := Lib.hid (HER.out.below hb)
                replace HEY := Lib.hid (RowN.below HEY.out hb)
                replace HER2 := Lib.hid (HER2.out.below hb)
                clear hb
                by_cases h9 : n1 = 9
                · subst h9
                  go_wp2
                  go_roundg (gk - 1)
                  case measure => omega
                  case rel => exact ⟨k + 1, a3, cap3, U, a4, cap4, T, rfl, rfl, by simp, by omega, HEU.out, HET.out, HOKU.out, HTK.out, HK.out, HO.out, HS6.out⟩
                · have g9 : ((n1 : Int) == 9) = false := beq_eq_false_iff_ne.2 h9
                  obtain ⟨hn, hz⟩ := HED.out.resolve_left h9
                  replace hn : n1 = n2 := hn
                  replace hz : n1 = 0 → RightL X ∧ stk (S ++ [X]) = Y := hz
                  subst hn
                  have HZ := Lib.hid hz
                  clear hz h9
                  go_wp2_with fail
                  refine (code_er _ _ _ HER.out HS6.out.et).mono ?_
                  rintro e w7 ⟨rfl, hb⟩
                  have HS7 := Lib.hid (HS6.out.next hb)
                  replace HK := Lib.hid (HK.out.below hb)
                  replace HO := Lib.hid (RowN.below HO.out hb)
                  replace HEU := Lib.hid (RowN.below HEU.out hb)
                  replace HET := Lib.hid (RowN.below HET.out hb)
                  replace HEX := Lib.hid (RowN.below HEX.out hb)
                  replace HER := Lib.hid (HER.out.below hb)
                  replace HEY := Lib.hid (RowN.below HEY.out hb)
                  replace HER2 := Lib.hid (HER2.out.below hb)
                  clear hb
                  go_wp2_with fail
                  refine (code_er _ _ _ HER2.out HS7.out.et).mono ?_
                  rintro e w8 ⟨rfl, hb⟩
                  have HS8 := Lib.hid (HS7.out.next hb)
                  replace HK := Lib.hid (HK.out.below hb)
                  replace HO := Lib.hid (RowN.below HO.out hb)
                  replace HEU := Lib.hid (RowN.below HEU.out hb)
                  replace HET := Lib.hid (RowN.below HET.out hb)
                  replace HEX := Lib.hid (RowN.below HEX.out hb)
                  replace HER := Lib.hid (HER.out.below hb)
                  replace HEY := Lib.hid (RowN.below HEY.out hb)
                  replace HER2 := Lib.hid (HER2.out.below hb)
                  clear hb
                  have gnn : ((n1 : Int) != n1) = false := by simp
                  by_cases hn : n1 = 0
                  · subst hn
                    obtain ⟨hr, hs⟩ := HZ.out rfl
                    have HOKX := Lib.hid (ok_put HOKU.out hr)
                    have HSX := Lib.hid hs
                    clear hr hs gnn g9
                    go_wp2_with fail
                    refine (code_er _ _ _ HER.out HS8.out.et).mono ?_
                    rintro e w9 ⟨rfl, hb⟩
                    have HS9 := Lib.hid (HS8.out.next hb)
                    replace HK := Lib.hid (HK.out.below hb)
                    replace HO := Lib.hid (RowN.below HO.out hb)
                    replace HEU := Lib.hid (RowN.below HEU.out hb)
                    replace HET := Lib.hid (RowN.below HET.out hb)
                    replace HEX := Lib.hid (RowN.below HEX.out hb)
                    replace HER := Lib.hid (HER.out.below hb)
                    replace HEY := Lib.hid (RowN.below HEY.out hb)
                    replace HER2 := Lib.hid (HER2.out.below hb)
                    clear hb
                    go_wp2_with fail
                    refine (with14 S X a a7 cap c7 _ HK.out HEX.out HSS.out.1).mono ?_
                    rintro e w10 ⟨a5, c5, rfl, h9, hb⟩
                    have HS10 := Lib.hid (HS9.out.next hb)
                    replace HK := Lib.hid (HK.out.below hb)
                    replace HO := Lib.hid (RowN.below HO.out hb)
                    replace HEU := Lib.hid (RowN.below HEU.out hb)
                    replace HET := Lib.hid (RowN.below HET.out hb)
                    replace HEX := Lib.hid (RowN.below HEX.out hb)
                    replace HER := Lib.hid (HER.out.below hb)
                    replace HEY := Lib.hid (RowN.below HEY.out hb)
                    replace HER2 := Lib.hid (HER2.out.below hb)
                    have HT := Lib.hid h9
                    clear h9
                    clear hb
                    go_wp2_with fail
                    refine (HLF.out X Y a5 c5 _ HS10.out.et HT.out HOKX.out HSX.out).mono ?_
                    rintro e w11 ⟨a6, c6, rfl, h9, hb⟩
                    have HS11 := Lib.hid (HS10.out.next hb)
                    replace HK := Lib.hid (HK.out.below hb)
                    replace HO := Lib.hid (RowN.below HO.out hb)
                    replace HEU := Lib.hid (RowN.below HEU.out hb)
                    replace HET := Lib.hid (RowN.below HET.out hb)
                    replace HEX := Lib.hid (RowN.below HEX.out hb)
                    replace HER := Lib.hid (HER.out.below hb)
                    replace HEY := Lib.hid (RowN.below HEY.out hb)
                    replace HER2 := Lib.hid (HER2.out.below hb)
                    have HEZ := Lib.hid h9
                    clear h9
                    clear hb
                    go_wp2_with fail
                    refine (same9 _ _ _ _ _ _ _ HEZ.out HEY.out (by have := (ok_stk HOKX.out).2.2; rw [HSX.out] at this; unfold maxLen; omega)).mono ?_
                    rintro e w12 ⟨rfl, hb⟩
                    have HS12 := Lib.hid (HS11.out.next hb)
                    replace HK := Lib.hid (HK.out.below hb)
                    replace HO := Lib.hid (RowN.below HO.out hb)
                    replace HEU := Lib.hid (RowN.below HEU.out hb)
                    replace HET := Lib.hid (RowN.below HET.out hb)
                    replace HEX := Lib.hid (RowN.below HEX.out hb)
                    replace HER := Lib.hid (HER.out.below hb)
                    replace HEY := Lib.hid (RowN.below HEY.out hb)
                    replace HER2 := Lib.hid (HER2.out.below hb)
                    replace HEZ := Lib.hid (RowN.below HEZ.out hb)
                    clear hb
                    rw [if_pos rfl]
                    go_wp2
                    go_roundg (gk - 1)
                    case measure => omega
                    case rel => exact ⟨k + 1, a7, c7, X, a8, c8, Y, rfl, rfl, by simp, by omega, HEX.out, HEY.out, HOKX.out, HSX.out, HK.out, HO.out, HS12.out⟩
                  · have g0 : ((n1 : Int) == 0) = false := beq_eq_false_iff_ne.2 hn
                    clear hn
                    go_wp2_with fail
                    refine (code_er _ _ _ HER.out HS8.out.et).mono ?_
                    rintro e w9 ⟨rfl, hb⟩
                    have HS9 := Lib.hid (HS8.out.next hb)
                    replace HK := Lib.hid (HK.out.below hb)
                    replace HO := Lib.hid (RowN.below HO.out hb)
                    replace HEU := Lib.hid (RowN.below HEU.out hb)
                    replace HET := Lib.hid (RowN.below HET.out hb)
                    replace HEX := Lib.hid (RowN.below HEX.out hb)
                    replace HER := Lib.hid (HER.out.below hb)
                    replace HEY := Lib.hid (RowN.below HEY.out hb)
                    replace HER2 := Lib.hid (HER2.out.below hb)
                    clear hb
                    go_wp2_with fail
                    refine (with14 S U a a3 cap cap3 _ HK.out HEU.out HSS.out.1).mono ?_
                    rintro e w10 ⟨a5, c5, rfl, h9, hb⟩
                    have HS10 := Lib.hid (HS9.out.next hb)
                    replace HK := Lib.hid (HK.out.below hb)
                    replace HO := Lib.hid (RowN.below HO.out hb)
                    replace HEU := Lib.hid (RowN.below HEU.out hb)
                    replace HET := Lib.hid (RowN.below HET.out hb)
                    replace HEX := Lib.hid (RowN.below HEX.out hb)
                    replace HER := Lib.hid (HER.out.below hb)
                    replace HEY := Lib.hid (RowN.below HEY.out hb)
                    replace HER2 := Lib.hid (HER2.out.below hb)
                    have HT := Lib.hid h9
                    clear h9
                    clear hb
                    go_wp2_with fail
                    refine (HLF.out U T a5 c5 _ HS10.out.et HT.out HOKU.out HTK.out).mono ?_
                    rintro e w11 ⟨a6, c6, rfl, h9, hb⟩
                    have HS11 := Lib.hid (HS10.out.next hb)
                    replace HK := Lib.hid (HK.out.below hb)
                    replace HO := Lib.hid (RowN.below HO.out hb)
                    replace HEU := Lib.hid (RowN.below HEU.out hb)
                    replace HET := Lib.hid (RowN.below HET.out hb)
                    replace HEX := Lib.hid (RowN.below HEX.out hb)
                    replace HER := Lib.hid (HER.out.below hb)
                    replace HEY := Lib.hid (RowN.below HEY.out hb)
                    replace HER2 := Lib.hid (HER2.out.below hb)
                    have HEZ := Lib.hid h9
                    clear h9
                    clear hb
                    go_wp2_with fail
                    refine (same9 _ _ _ _ _ _ _ HEZ.out HET.out (by have := HTT.out.2; unfold maxLen; omega)).mono ?_
                    rintro e w12 ⟨rfl, hb⟩
                    have HS12 := Lib.hid (HS11.out.next hb)
                    replace HK := Lib.hid (HK.out.below hb)
                    replace HO := Lib.hid (RowN.below HO.out hb)
                    replace HEU := Lib.hid (RowN.below HEU.out hb)
                    replace HET := Lib.hid (RowN.below HET.out hb)
                    replace HEX := Lib.hid (RowN.below HEX.out hb)
                    replace HER := Lib.hid (HER.out.below hb)
                    replace HEY := Lib.hid (RowN.below HEY.out hb)
                    replace HER2 := Lib.hid (HER2.out.below hb)
                    replace HEZ := Lib.hid (RowN.below HEZ.out hb)
                    clear hb
                    rw [if_pos rfl]
                    go_wp2
                    go_roundg (gk - 1)
                    case measure => omega
                    case rel => exact ⟨k + 1, a3, cap3, U, a4, cap4, T, rfl, rfl, by simp, by omega, HEU.out, HET.out, HOKU.out, HTK.out, HK.out, HO.out, HS12.out⟩
              · go_wp2_with fail
                refine (few11 o _).mono ?_
                rintro e w1 ⟨rfl, hb⟩
                have HS1 := Lib.hid (HS0.out.next hb)
                replace HK := Lib.hid (HK.out.below hb)
                replace HO := Lib.hid (RowN.below HO.out hb)
                replace HEU := Lib.hid (RowN.below HEU.out hb)
                replace HET := Lib.hid (RowN.below HET.out hb)
                clear hb
                rw [if_neg hf]
                clear hf
                go_wp2
                go_ret
                exact ⟨by first | rfl | simp, HS1.out.below⟩
            · have hlt' : ¬ (k : Int) < (l.length : Int) := by omega
              go_wp2
              go_ret
              exact ⟨by first | rfl | simp, HS0.out.below⟩
  · have hF1 : (if FewOK S then (1 : Int) else 0) = 0 := if_neg hf
    clear hf
    go_enter Tryz.func3, Tryz.ntmps3
    go_wp2_with fail
    refine (awake14 LD _ HS0.out.et).mono ?_
    rintro e w1 ⟨rfl, hb⟩
    have HS1 := Lib.hid (HS0.out.next hb)
    replace HK := Lib.hid (HK.out.below hb)
    clear hb
    go_wp2_with fail
    refine (few10 S a cap _ HK.out).mono ?_
    rintro e w9 ⟨rfl, rfl⟩
    rw [hF1]
    go_wp2_with fail
    refine (awake14 LD _ HS1.out.et).mono ?_
    rintro e w2 ⟨rfl, hb⟩
    have HS2 := Lib.hid (HS1.out.next hb)
    clear hb
    go_wp2
    go_ret
    exact ⟨by first | rfl | simp, HS2.out.below⟩
end Go.Proofs.YtjliagcalbdnhaaGreatDoor
