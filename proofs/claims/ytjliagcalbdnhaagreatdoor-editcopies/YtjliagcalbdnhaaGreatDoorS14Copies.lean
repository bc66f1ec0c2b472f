/-
  The law EditCopies walked over Do14, Stack14, Write14, Read11: for every stack, path, number and text it returns true and changes nothing that was there. Conditions: package edit answers as Do14 says, fold.Stack as Stack14, package tree's Write and Read as Write14, Read11; the stack lies in memory; errorType holds error's type.
-/
import Derived.Test.YtjliagcalbdnhaaGreatDoorS14Awake
import Derived.Test.YtjliagcalbdnhaaGreatDoorS12Few
import Derived.Test.YtjliagcalbdnhaaGreatDoorPc
import Derived.Test.YtjliagcalbdnhaaGreatDoorPh
import Derived.Test.YtjliagcalbdnhaaGreatDoorPa
import Derived.Test.YtjliagcalbdnhaaGreatDoorS11SpecR
namespace Go.Proofs.YtjliagcalbdnhaaGreatDoor
open Go.RowKit

def Write14 : Prop := ∀ t a cap p n s w, EtLaid w → Ents w a cap t → TreeL t → t.length ≤ 900 → p.size ≤ 100000 → (-9223372036854775808 ≤ n ∧ n ≤ 9223372036854775807) → s.size ≤ 100000 → Calls Tryz.prog 22 #[.slice a t.length cap, .string p, .int .i64 n, .string s] w (Ans11 (wrV t p n s) w)
theorem en_boxC (w : World) (x : Ent) : ∃ V U M, w.alloc (.cells #[.string ⟨#[]⟩, .int .i64 0, .string ⟨#[]⟩] 46) = V ∧ w.heap.size = M ∧ enSet V M x.1 x.2.1 x.2.2 = U ∧ EnAt V M ⟨#[]⟩ 0 ⟨#[]⟩ ∧ EnAt U M x.1 x.2.1 x.2.2 ∧ Below w.heap.size w U := by
  refine ⟨_, _, _, rfl, rfl, rfl, enAt_new _ _ _ _, (enAt_new _ _ _ _).set _ _ _, below_en3 ((Below.refl _ _).alloc (Nat.le_refl _) _) (Nat.le_refl _) _ _ _⟩
theorem sm_nil14 : Sm [] := ⟨by simp, by simp⟩
theorem skV_tree (S : List (List Ent)) : TreeL (skV S) ∧ (skV S).length ≤ 576 := by
  unfold skV
  split
  · rename_i h
    have h1 := stk_len h.2
    have h2 : (stk S).length ≤ 576 := by have := h.1; omega
    exact ⟨⟨by omega, tr_stk h.2⟩, h2⟩
  · exact ⟨treeL_nil, by simp⟩
attribute [local go_sem ↓] eqw_en new_en
attribute [local go_sem] isEv_agg evEq_agg eta_ent
set_option maxRecDepth 10000 in
set_option maxHeartbeats 32000000 in
theorem lawCopies14 (LD : Do14) (LF : Stack14) (LW : Write14) (LR : Read11) (S : List (List Ent)) (a : Option Addr) (cap : Nat) (p : ByteArray) (n : Nat) (s : ByteArray) (W : World) (hg : EtLaid W) (hk : Stk W a cap S) (hn : n ≤ 255) :
    Calls Tryz.prog 6 #[.slice a S.length cap, .string p, .int .u8 (n : Int), .string s] W fun e w' => e = .returned (.bool true) ∧ Below W.heap.size W w' := by
  have HS0 := Lib.hid (st_self hg)
  have HK := Lib.hid hk
  have HN := Lib.hid hn
  clear hg hk hn
  by_cases hf : FewOK S
  · have hF1 : (if FewOK S then (1 : Int) else 0) = 1 := if_pos hf
    have HSS := Lib.hid (few_sm12 hf)
    clear hf
    by_cases g8 : (8 : Int) < (S.length : Int)
    · go_enter Tryz.func6, Tryz.ntmps6
      go_wp2_with fail
      refine (awake14 LD _ HS0.out.et).mono ?_
      rintro e w1 ⟨rfl, hb⟩
      have HS1 := Lib.hid (HS0.out.next hb)
      replace HK := Lib.hid (HK.out.below hb)
      clear hb
      go_wp2_with fail
      refine (few10 S a cap _ HK.out).mono ?_
      rintro e w9 ⟨rfl, rfl⟩
      rw [hF1]
      go_wp2_with fail
      refine (awake14 LD _ HS1.out.et).mono ?_
      rintro e w2 ⟨rfl, hb⟩
      have HS2 := Lib.hid (HS1.out.next hb)
      replace HK := Lib.hid (HK.out.below hb)
      clear hb
      go_wp2
      go_ret
      exact ⟨by first | rfl | simp, HS2.out.below⟩
    · by_cases g54 : (54 : Int) < (p.size : Int)
      · go_enter Tryz.func6, Tryz.ntmps6
        go_wp2_with fail
        refine (awake14 LD _ HS0.out.et).mono ?_
        rintro e w1 ⟨rfl, hb⟩
        have HS1 := Lib.hid (HS0.out.next hb)
        replace HK := Lib.hid (HK.out.below hb)
        clear hb
        go_wp2_with fail
        refine (few10 S a cap _ HK.out).mono ?_
        rintro e w9 ⟨rfl, rfl⟩
        rw [hF1]
        go_wp2_with fail
        refine (awake14 LD _ HS1.out.et).mono ?_
        rintro e w2 ⟨rfl, hb⟩
        have HS2 := Lib.hid (HS1.out.next hb)
        replace HK := Lib.hid (HK.out.below hb)
        clear hb
        go_wp2
        go_ret
        exact ⟨by first | rfl | simp, HS2.out.below⟩
      · by_cases g256 : (256 : Int) < (s.size : Int)
        · go_enter Tryz.func6, Tryz.ntmps6
          go_wp2_with fail
          refine (awake14 LD _ HS0.out.et).mono ?_
          rintro e w1 ⟨rfl, hb⟩
          have HS1 := Lib.hid (HS0.out.next hb)
          replace HK := Lib.hid (HK.out.below hb)
          clear hb
          go_wp2_with fail
          refine (few10 S a cap _ HK.out).mono ?_
          rintro e w9 ⟨rfl, rfl⟩
          rw [hF1]
          go_wp2_with fail
          refine (awake14 LD _ HS1.out.et).mono ?_
          rintro e w2 ⟨rfl, hb⟩
          have HS2 := Lib.hid (HS1.out.next hb)
          replace HK := Lib.hid (HK.out.below hb)
          clear hb
          go_wp2
          go_ret
          exact ⟨by first | rfl | simp, HS2.out.below⟩
        · have HP8 := Lib.hid (show S.length ≤ 8 ∧ p.size ≤ 54 ∧ s.size ≤ 256 by omega)
          have HSZ := Lib.hid (show p.size ≤ 100000 ∧ s.size ≤ 100000 by omega)
          have HFO := Lib.hid (show FewO (2, p, ⟨#[]⟩, (n : Int), s) from ⟨by show p.size ≤ 100; omega, (by decide : (⟨#[]⟩ : ByteArray).size ≤ 100), by show s.size ≤ 600; omega⟩)
          have HOO := Lib.hid (show opOK (2, p, ⟨#[]⟩, (n : Int), s) from ⟨(by decide : (-9223372036854775808 : Int) ≤ 2 ∧ (2 : Int) ≤ 9223372036854775807), by have := HN.out; show -9223372036854775808 ≤ (n : Int) ∧ (n : Int) ≤ 9223372036854775807; omega, by show p.size ≤ maxLen; unfold maxLen; omega, (Nat.zero_le _ : (⟨#[]⟩ : ByteArray).size ≤ maxLen), by show s.size ≤ maxLen; unfold maxLen; omega⟩)
          go_enter Tryz.func6, Tryz.ntmps6
          go_wp2_with fail
          refine (awake14 LD _ HS0.out.et).mono ?_
          rintro e w1 ⟨rfl, hb⟩
          have HS1 := Lib.hid (HS0.out.next hb)
          replace HK := Lib.hid (HK.out.below hb)
          clear hb
          go_wp2_with fail
          refine (few10 S a cap _ HK.out).mono ?_
          rintro e w9 ⟨rfl, rfl⟩
          rw [hF1]
          obtain ⟨T, hT⟩ : ∃ T, skV S = T := ⟨_, rfl⟩
          have HSK := Lib.hid hT
          have HTT := Lib.hid (skV_tree S)
          rw [hT] at HTT
          clear hT
          have HLF : Hid (∀ w, EtLaid w → Stk w a cap S → Calls Tryz.prog 10 #[.slice a S.length cap] w fun e w' => ∃ a'' cap'', e = .returned (.slice a'' T.length cap'') ∧ Ents w' a'' cap'' T ∧ Below w.heap.size w w') := fun w h1 h2 => by
            have := LF S a cap w h1 h2 HSS.out.1 HSS.out.2
            rw [HSK.out] at this
            exact this
          go_wp2_with fail
          refine (HLF.out _ HS1.out.et HK.out).mono ?_
          rintro e w2 ⟨a3, c3, rfl, h9, hb⟩
          have HS2 := Lib.hid (HS1.out.next hb)
          replace HK := Lib.hid (HK.out.below hb)
          have HET := Lib.hid h9
          clear h9
          clear hb
          obtain ⟨res, hres⟩ : ∃ res, edV S [] (2, p, ⟨#[]⟩, (n : Int), s) = res := ⟨_, rfl⟩
          obtain ⟨res2, hres2⟩ : ∃ res, wrV T p (n : Int) s = res := ⟨_, rfl⟩
          have HRS := Lib.hid hres
          have HRS2 := Lib.hid hres2
          have HST := Lib.hid (stays_wr HTT.out.1 p (n : Int) s)
          rw [hres2] at HST
          obtain ⟨n1, X⟩ := res
          obtain ⟨n2, Y⟩ := res2
          have HFA : Hid ((n1 = 16 ∧ n1 ≠ 0) ∨ (n1 = n2 ∧ (n1 = 0 → RightL X ∧ ∃ d, rdV Y p.data.toList = (0, d) ∧ fdV X p.data.toList = ((p, 1, d), true) ∧ X.length = (pcs p.data.toList).length ∧ isP p.data.toList))) := by
            by_cases hA : ∀ l ∈ S, RightL l
            · have hok : OK14 S := ⟨by have := HP8.out.1; omega, hA⟩
              have hsk : stk S = T := by rw [← HSK.out]; exact (if_pos hok).symm
              obtain ⟨e1, e2⟩ := ed_copy (low := S) (p := p) (s := s) (n := n) (HP8.out.1) hA (HP8.out.2.1) (HP8.out.2.2)
              rw [hsk, hres, hres2] at e1 e2
              refine .inr ⟨e1, fun h0 => ?_⟩
              have hz := ed_zero (low := S) (u := []) (o := (2, p, ⟨#[]⟩, (n : Int), s)) (by rw [hres]; exact h0)
              have hR : RightL X := by
                have h5 := hz.2.2.2.2
                rw [← hz.2.2.2.1, hres] at h5
                exact h5
              obtain ⟨d, f1, f2, f3, f4⟩ := e2 (e1.symm.trans h0)
              refine ⟨hR, d, f1, ?_, f3, f4⟩
              unfold fdV
              rw [if_pos hR, f2]
            · refine .inl ?_
              have hr : rOp (2, p, ⟨#[]⟩, (n : Int), s) := ⟨by simp, HP8.out.2.1, (by decide : (⟨#[]⟩ : ByteArray).size ≤ 54), HP8.out.2.2⟩
              have ho : ¬ OK14 (S ++ [[]]) := fun h => hA fun l hl => h.2 l (by simp [hl])
              have h9 : edV S [] (2, p, ⟨#[]⟩, (n : Int), s) = (16, []) := by
                unfold edV
                rw [if_neg (not_not_intro hr), if_pos ho]
              rw [hres] at h9
              have := congrArg Prod.fst h9
              exact ⟨this, by rw [show n1 = 16 from this]; decide⟩
          clear hres hres2
          have hwn : IntKind.i64.wrap (n : Int) = (n : Int) := IntWalk.i64_in _ (by have := HN.out; omega)
          go_wp2_with fail
          refine (LD S a cap [] none 0 (2, p, ⟨#[]⟩, (n : Int), s) _ HS2.out.et HK.out (ents_nil _ _ _) HSS.out.1 HSS.out.2 sm_nil14 HFO.out HOO.out).mono ?_
          rw [HRS.out]
          rintro e w3 ⟨a7, c7, er, rfl, h9, e9, hb⟩
          have HS3 := Lib.hid (HS2.out.next hb)
          replace HK := Lib.hid (HK.out.below hb)
          replace HET := Lib.hid (RowN.below HET.out hb)
          have HEX := Lib.hid h9
          have HER := Lib.hid e9
          clear h9 e9
          clear hb
          go_wp2_with fail
          refine (LW T a3 c3 p (n : Int) s _ HS3.out.et HET.out HTT.out.1 (by have := HTT.out.2; omega) HSZ.out.1 (by have := HN.out; omega) HSZ.out.2).mono ?_
          rw [HRS2.out]
          rintro e w4 ⟨a8, c8, er2, rfl, h9, e9, hb⟩
          have HS4 := Lib.hid (HS3.out.next hb)
          replace HK := Lib.hid (HK.out.below hb)
          replace HET := Lib.hid (RowN.below HET.out hb)
          replace HEX := Lib.hid (RowN.below HEX.out hb)
          replace HER := Lib.hid (HER.out.below hb)
          have HEY := Lib.hid h9
          have HER2 := Lib.hid e9
          clear h9 e9
          clear hb
          go_wp2_with fail
          refine (code_er _ _ _ HER.out HS4.out.et).mono ?_
          rintro e w5 ⟨rfl, hb⟩
          have HS5 := Lib.hid (HS4.out.next hb)
          replace HK := Lib.hid (HK.out.below hb)
          replace HET := Lib.hid (RowN.below HET.out hb)
          replace HEX := Lib.hid (RowN.below HEX.out hb)
          replace HER := Lib.hid (HER.out.below hb)
          replace HEY := Lib.hid (RowN.below HEY.out hb)
          replace HER2 := Lib.hid (HER2.out.below hb)
          clear hb
          by_cases hn : n1 = 0
          · obtain ⟨h12, hrest⟩ := HFA.out.resolve_left fun h => h.2 hn
            obtain ⟨hR, dd, f1, f2, f3, f4⟩ := hrest hn
            subst h12
            subst hn
            have HR := Lib.hid hR
            have HRD := Lib.hid f1
            have HFN := Lib.hid f2
            have HTY := Lib.hid (stays_tree HST.out)
            have HDP := Lib.hid (show (X.length : Int) = dp p.data.toList by rw [dp_pos f4, f3])
            clear hrest hR f1 f2 f3 f4 HFA HST HRS HRS2
            have HRE := Lib.hid (fun w h1 h2 => LR Y a8 c8 p w h1 h2 HTY.out.1 (by have := HTY.out.2; have := HTT.out.2; omega) HSZ.out.1)
            rw [HRD.out] at HRE
            have HFD := Lib.hid (fun w h => find9 X a7 c7 p w h (sm_right14 HR.out))
            rw [HFN.out] at HFD
            have HDE := Lib.hid (fun w => deep_any p (by have := HSZ.out.1; omega) w)
            rw [← HDP.out] at HDE
            clear HRD HFN HDP
            go_wp2_with fail
            refine (HRE.out _ HS5.out.et HEY.out).mono ?_
            rintro e w6 ⟨er3, rfl, e9, hb⟩
            have HS6 := Lib.hid (HS5.out.next hb)
            replace HK := Lib.hid (HK.out.below hb)
            replace HET := Lib.hid (RowN.below HET.out hb)
            replace HEX := Lib.hid (RowN.below HEX.out hb)
            replace HER := Lib.hid (HER.out.below hb)
            replace HEY := Lib.hid (RowN.below HEY.out hb)
            replace HER2 := Lib.hid (HER2.out.below hb)
            have HER3 := Lib.hid e9
            clear e9
            clear hb
            go_wp2_with fail
            refine (HFD.out _ HEX.out).mono ?_
            rintro e w7 ⟨rfl, hb⟩
            have HS7 := Lib.hid (HS6.out.next hb)
            replace HK := Lib.hid (HK.out.below hb)
            replace HET := Lib.hid (RowN.below HET.out hb)
            replace HEX := Lib.hid (RowN.below HEX.out hb)
            replace HER := Lib.hid (HER.out.below hb)
            replace HEY := Lib.hid (RowN.below HEY.out hb)
            replace HER2 := Lib.hid (HER2.out.below hb)
            replace HER3 := Lib.hid (HER3.out.below hb)
            clear hb
            obtain ⟨Vx, Ux, Mx, hVx, hMx, hUx, hv, hu, hb⟩ := en_boxC w7 (p, 1, dd)
            have v0 := hv.c0
            have v1 := hv.c1
            have v2 := hv.c2
            have vf0 := hv.f0
            have vf1 := hv.f1
            have vf2 := hv.f2
            have HX := Lib.hid hu
            clear hv hu
            have HS8 := Lib.hid (HS7.out.next hb)
            replace HK := Lib.hid (HK.out.below hb)
            replace HET := Lib.hid (RowN.below HET.out hb)
            replace HEX := Lib.hid (RowN.below HEX.out hb)
            replace HER := Lib.hid (HER.out.below hb)
            replace HEY := Lib.hid (RowN.below HEY.out hb)
            replace HER2 := Lib.hid (HER2.out.below hb)
            replace HER3 := Lib.hid (HER3.out.below hb)
            clear hb
            go_wp2_with fail
            refine (code_er _ _ _ HER2.out HS8.out.et).mono ?_
            rintro e w9 ⟨rfl, hb⟩
            have HS9 := Lib.hid (HS8.out.next hb)
            replace HK := Lib.hid (HK.out.below hb)
            replace HET := Lib.hid (RowN.below HET.out hb)
            replace HEX := Lib.hid (RowN.below HEX.out hb)
            replace HER := Lib.hid (HER.out.below hb)
            replace HEY := Lib.hid (RowN.below HEY.out hb)
            replace HER2 := Lib.hid (HER2.out.below hb)
            replace HER3 := Lib.hid (HER3.out.below hb)
            replace HX := Lib.hid (HX.out.below hb)
            clear hb
            clear v0 v1 v2 vf0 vf1 vf2 hVx hMx hUx
            go_wp2_with fail
            refine (code_er _ _ _ HER3.out HS9.out.et).mono ?_
            rintro e w10 ⟨rfl, hb⟩
            have HS10 := Lib.hid (HS9.out.next hb)
            replace HK := Lib.hid (HK.out.below hb)
            replace HET := Lib.hid (RowN.below HET.out hb)
            replace HEX := Lib.hid (RowN.below HEX.out hb)
            replace HER := Lib.hid (HER.out.below hb)
            replace HEY := Lib.hid (RowN.below HEY.out hb)
            replace HER2 := Lib.hid (HER2.out.below hb)
            replace HER3 := Lib.hid (HER3.out.below hb)
            replace HX := Lib.hid (HX.out.below hb)
            clear hb
            have x0 := HX.out.c0
            have x1 := HX.out.c1
            have x2 := HX.out.c2
            go_wp2_with fail
            refine (HDE.out _).mono ?_
            rintro e w11 ⟨rfl, hb⟩
            have HS11 := Lib.hid (HS10.out.next hb)
            replace HK := Lib.hid (HK.out.below hb)
            replace HET := Lib.hid (RowN.below HET.out hb)
            replace HEX := Lib.hid (RowN.below HEX.out hb)
            replace HER := Lib.hid (HER.out.below hb)
            replace HEY := Lib.hid (RowN.below HEY.out hb)
            replace HER2 := Lib.hid (HER2.out.below hb)
            replace HER3 := Lib.hid (HER3.out.below hb)
            replace HX := Lib.hid (HX.out.below hb)
            clear hb
            clear x0 x1 x2
            go_wp2_with fail
            refine (HLF.out _ HS11.out.et HK.out).mono ?_
            rintro e w12 ⟨a6, c6, rfl, h9, hb⟩
            have HS12 := Lib.hid (HS11.out.next hb)
            replace HK := Lib.hid (HK.out.below hb)
            replace HET := Lib.hid (RowN.below HET.out hb)
            replace HEX := Lib.hid (RowN.below HEX.out hb)
            replace HER := Lib.hid (HER.out.below hb)
            replace HEY := Lib.hid (RowN.below HEY.out hb)
            replace HER2 := Lib.hid (HER2.out.below hb)
            replace HER3 := Lib.hid (HER3.out.below hb)
            replace HX := Lib.hid (HX.out.below hb)
            have HEZ := Lib.hid h9
            clear h9
            clear hb
            go_wp2_with fail
            refine (same9 _ _ _ _ _ _ _ HEZ.out HET.out (by have := HTT.out.2; unfold maxLen; omega)).mono ?_
            rintro e w13 ⟨rfl, hb⟩
            have HS13 := Lib.hid (HS12.out.next hb)
            replace HK := Lib.hid (HK.out.below hb)
            replace HET := Lib.hid (RowN.below HET.out hb)
            replace HEX := Lib.hid (RowN.below HEX.out hb)
            replace HER := Lib.hid (HER.out.below hb)
            replace HEY := Lib.hid (RowN.below HEY.out hb)
            replace HER2 := Lib.hid (HER2.out.below hb)
            replace HER3 := Lib.hid (HER3.out.below hb)
            replace HX := Lib.hid (HX.out.below hb)
            replace HEZ := Lib.hid (RowN.below HEZ.out hb)
            clear hb
            rw [if_pos rfl]
            go_wp2
            go_ret
            exact ⟨by first | rfl | simp, HS13.out.below⟩
          · have g1 : ((n1 : Int) != 0) = true := bne_iff_ne.2 hn
            by_cases h16 : n1 = 16
            · subst h16
              clear HFA hn
              go_wp2_with fail
              refine (code_er _ _ _ HER.out HS5.out.et).mono ?_
              rintro e w6 ⟨rfl, hb⟩
              have HS6 := Lib.hid (HS5.out.next hb)
              replace HK := Lib.hid (HK.out.below hb)
              replace HET := Lib.hid (RowN.below HET.out hb)
              replace HEX := Lib.hid (RowN.below HEX.out hb)
              replace HER := Lib.hid (HER.out.below hb)
              replace HEY := Lib.hid (RowN.below HEY.out hb)
              replace HER2 := Lib.hid (HER2.out.below hb)
              clear hb
              go_wp2
              go_ret
              exact ⟨by first | rfl | simp, HS6.out.below⟩
            · have g16 : ((n1 : Int) == 16) = false := beq_eq_false_iff_ne.2 h16
              have h12 := (HFA.out.resolve_left fun h => h16 h.1).1
              subst h12
              clear HFA hn h16
              go_wp2_with fail
              refine (code_er _ _ _ HER.out HS5.out.et).mono ?_
              rintro e w6 ⟨rfl, hb⟩
              have HS6 := Lib.hid (HS5.out.next hb)
              replace HK := Lib.hid (HK.out.below hb)
              replace HET := Lib.hid (RowN.below HET.out hb)
              replace HEX := Lib.hid (RowN.below HEX.out hb)
              replace HER := Lib.hid (HER.out.below hb)
              replace HEY := Lib.hid (RowN.below HEY.out hb)
              replace HER2 := Lib.hid (HER2.out.below hb)
              clear hb
              go_wp2_with fail
              refine (code_er _ _ _ HER.out HS6.out.et).mono ?_
              rintro e w7 ⟨rfl, hb⟩
              have HS7 := Lib.hid (HS6.out.next hb)
              replace HK := Lib.hid (HK.out.below hb)
              replace HET := Lib.hid (RowN.below HET.out hb)
              replace HEX := Lib.hid (RowN.below HEX.out hb)
              replace HER := Lib.hid (HER.out.below hb)
              replace HEY := Lib.hid (RowN.below HEY.out hb)
              replace HER2 := Lib.hid (HER2.out.below hb)
              clear hb
              go_wp2_with fail
              refine (code_er _ _ _ HER2.out HS7.out.et).mono ?_
              rintro e w8 ⟨rfl, hb⟩
              have HS8 := Lib.hid (HS7.out.next hb)
              replace HK := Lib.hid (HK.out.below hb)
              replace HET := Lib.hid (RowN.below HET.out hb)
              replace HEX := Lib.hid (RowN.below HEX.out hb)
              replace HER := Lib.hid (HER.out.below hb)
              replace HEY := Lib.hid (RowN.below HEY.out hb)
              replace HER2 := Lib.hid (HER2.out.below hb)
              clear hb
              go_wp2
              go_ret
              exact ⟨by first | rfl | simp, HS8.out.below⟩
  · have hF1 : (if FewOK S then (1 : Int) else 0) = 0 := if_neg hf
    clear hf
    go_enter Tryz.func6, Tryz.ntmps6
    go_wp2_with fail
    refine (awake14 LD _ HS0.out.et).mono ?_
    rintro e w1 ⟨rfl, hb⟩
    have HS1 := Lib.hid (HS0.out.next hb)
    replace HK := Lib.hid (HK.out.below hb)
    clear hb
    go_wp2_with fail
    refine (few10 S a cap _ HK.out).mono ?_
    rintro e w9 ⟨rfl, rfl⟩
    rw [hF1]
    go_wp2_with fail
    refine (awake14 LD _ HS1.out.et).mono ?_
    rintro e w2 ⟨rfl, hb⟩
    have HS2 := Lib.hid (HS1.out.next hb)
    replace HK := Lib.hid (HK.out.below hb)
    clear hb
    go_wp2
    go_ret
    exact ⟨by first | rfl | simp, HS2.out.below⟩
theorem copies_end (LD : Do14) (LF : Stack14) (LW : Write14) (LR : Read11) (S : List (List Ent)) (a : Option Addr) (cap : Nat) (p : ByteArray) (k : Int) (s : ByteArray) (W : World) (hg : EtLaid W) (hk : Stk W a cap S) (hn : 0 ≤ k ∧ k ≤ 255) :
    Calls Tryz.prog 6 #[.slice a S.length cap, .string p, .int .u8 k, .string s] W fun e w' => e = .returned (.bool true) ∧ Below W.heap.size W w' := by
  obtain ⟨n, rfl⟩ := Int.eq_ofNat_of_zero_le hn.1
  exact lawCopies14 LD LF LW LR S a cap p n s W hg hk (by have := hn.2; omega)
end Go.Proofs.YtjliagcalbdnhaaGreatDoor
