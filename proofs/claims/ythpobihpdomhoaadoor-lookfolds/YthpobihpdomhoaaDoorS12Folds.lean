/-
  The law LookFolds walked over Look12 and Shows12: for every stack and text it returns true and changes nothing that was there. Conditions: package look answers as Look12 and Shows12 say; the stack lies in memory; errorType holds error's type.
-/
import Derived.Test.YthpobihpdomhoaaDoorS12Awake
import Derived.Test.YthpobihpdomhoaaDoorS12Few
import Derived.Test.YthpobihpdomhoaaDoorS12FdEq
import Derived.Test.YthpobihpdomhoaaDoorS12Ref2
namespace Go.Proofs.YthpobihpdomhoaaDoor
open Go.RowKit

/-- What lies at a path is what the folded stack has there. -/
theorem fold_at12 {S : List (List Ent)} (h : LkOK S) (p : List UInt8) : (atV (stk S) p).1 = (atS S p).1 ∧ (atS S p).2.1 = (atV (stk S) p).2 ∧ ((atS S p).1 = 0 → pl (atS S p).2.1 = p) := by
  by_cases hp : isP p
  · obtain ⟨h1, h2, _, h4⟩ := look_all h.2 p hp
    exact ⟨h1.symm, h2, fun h0 => (h4 h0).1⟩
  · rw [atS_bad hp, show atV (stk S) p = (2, noE) from if_pos hp]
    exact ⟨rfl, rfl, fun h => by cases h⟩
attribute [local go_sem ↓] eqw_fd new_fd eqw_en new_en
attribute [local go_sem] isFv_agg isFv_zero fvEq_agg fvEq_zero eta_fd isEv_agg evEq_agg eta_ent
set_option maxRecDepth 10000 in
set_option maxHeartbeats 8000000 in
theorem lawFolds12 (L : Look12) (LS : Shows12) (S : List (List Ent)) (p : ByteArray) (a : Option Addr) (cap : Nat) (W : World) (hg : EtLaid W) (hk : Stk W a cap S) : Calls Tryd.prog 3 #[.slice a S.length cap, .string p] W fun e w' => e = .returned (.bool true) ∧ Below W.heap.size W w' := by
  have HS0 := Lib.hid (st_self hg)
  have HK := Lib.hid hk
  clear hg hk
  by_cases hf : FewOK S
  · have hF1 : (if FewOK S then (1 : Int) else 0) = 1 := if_pos hf
    have HFW := Lib.hid hf
    have HSS := Lib.hid (few_sm12 hf)
    clear hf
    by_cases hp : (100 : Int) < (p.size : Int)
    · go_enter Tryd.func3, Tryd.ntmps3
      go_wp2_with fail
      refine (awake12 L _ HS0.out.et).mono ?_
      rintro e w1 ⟨rfl, hb⟩
      have HS1 := Lib.hid (HS0.out.next hb)
      replace HK := Lib.hid (HK.out.below hb)
      clear hb
      go_wp2_with fail
      refine (few10 S a cap _ HK.out).mono ?_
      rintro e w9 ⟨rfl, rfl⟩
      rw [hF1]
      go_wp2_with fail
      refine (awake12 L _ HS1.out.et).mono ?_
      rintro e w2 ⟨rfl, hb⟩
      have HS2 := Lib.hid (HS1.out.next hb)
      replace HK := Lib.hid (HK.out.below hb)
      clear hb
      go_wp2
      go_ret
      exact ⟨by first | rfl | simp, HS2.out.below⟩
    · have HP := Lib.hid (show p.size ≤ 100 by omega)
      obtain ⟨n1, hn1⟩ : ∃ n, (lkV S p.data.toList).1 = n := ⟨_, rfl⟩
      obtain ⟨y, hy⟩ : ∃ y, (lkV S p.data.toList).2 = y := ⟨_, rfl⟩
      have HAT : Hid (∀ w, EtLaid w → Stk w a cap S → Calls Tryd.prog 10 #[.slice a S.length cap, .string p] w fun e w' => ∃ er, e = .returned (.tuple #[fdnV y, er]) ∧ Er w' n1 er ∧ Below w.heap.size w w') := fun w h1 h2 => by
        have := L S a cap p w h1 h2 HSS.out.1 HSS.out.2 (by have := HP.out; omega)
        rw [hn1, hy] at this
        exact this
      have HSH : Hid (∀ w, EtLaid w → Stk w a cap S → Calls Tryd.prog 13 #[.slice a S.length cap, .string p] w fun e w' => e = .returned (.bool (decide (n1 = 0))) ∧ Below w.heap.size w w') := fun w h1 h2 => by
        have := LS S a cap p w h1 h2 HSS.out.1 HSS.out.2 (by have := HP.out; omega)
        rw [hn1] at this
        exact this
      have HRR := Lib.hid (fun W h => refRight12 S a cap W h HSS.out.1 HSS.out.2)
      by_cases hok : LkOK S
      · rw [decide_eq_true (show S.length ≤ 9 ∧ ∀ l ∈ S, RightL l from hok)] at HRR
        rw [lkV_ok hok] at hn1 hy
        have HRA := Lib.hid (fun W h => refAt12 S a cap p W h hok.1 hok.2 (by have := HP.out; omega))
        have hfa := fold_at12 hok p.data.toList
        rw [hn1, hy] at hfa
        obtain ⟨v, hv⟩ : ∃ v, atV (stk S) p.data.toList = v := ⟨_, rfl⟩
        rw [hv] at HRA hfa
        obtain ⟨e1, e2, e3⟩ := hfa
        have HYZ := Lib.hid (fun h => (show y = (noE, 0) by rw [← hy]; exact atS_err S (by rw [hn1]; exact h)))
        clear hv hok hn1 hy
        by_cases h0 : n1 = 0
        · have g1 : (n1 == 0) = true := beq_iff_eq.2 h0
          have hpe := e3 h0
          have g2 : decide (n1 = 0) = true := decide_eq_true h0
          have g0 : (v.1 == 0) = true := by rw [e1]; exact g1
          have g3 : (n1 == v.1) = true := by rw [e1]; exact beq_iff_eq.2 rfl
          have g4 : (n1 != v.1) = false := by rw [bne, g3]; rfl
          have g5 : (v.1 != 0) = false := by rw [bne, g0]; rfl
          have HYE := Lib.hid (show y.1 = (p, v.2.2.1, v.2.2.2) by rw [e2]; exact Prod.ext (by rw [← e2]; exact ba_ext hpe) rfl)
          clear h0 hpe e1 e2 e3
          go_enter Tryd.func3, Tryd.ntmps3
          go_wp2_with fail
          refine (awake12 L _ HS0.out.et).mono ?_
          rintro e w1 ⟨rfl, hb⟩
          have HS1 := Lib.hid (HS0.out.next hb)
          replace HK := Lib.hid (HK.out.below hb)
          clear hb
          go_wp2_with fail
          refine (few10 S a cap _ HK.out).mono ?_
          rintro e w9 ⟨rfl, rfl⟩
          rw [hF1]
          go_wp2_with fail
          refine (HAT.out _ HS1.out.et HK.out).mono ?_
          rintro e w2 ⟨er1, rfl, e9, hb⟩
          have Her1 := Lib.hid e9
          clear e9
          have HS2 := Lib.hid (HS1.out.next hb)
          replace HK := Lib.hid (HK.out.below hb)
          clear hb
          obtain ⟨Vy, Uy, My, hVy, hMy, hUy, hv, hu, hb⟩ := fd_box w2 y
          have v0 := hv.c0
          have v1 := hv.c1
          have v2 := hv.c2
          have v3 := hv.c3
          have vf0 := hv.f0
          have vf1 := hv.f1
          have vf2 := hv.f2
          have vf3 := hv.f3
          have Hy := Lib.hid hu
          clear hv hu
          have HS3 := Lib.hid (HS2.out.next hb)
          replace HK := Lib.hid (HK.out.below hb)
          replace Her1 := Lib.hid (Her1.out.below hb)
          clear hb
          go_wp2_with fail
          refine (HRR.out _ HK.out).mono ?_
          rintro e w4 ⟨rfl, hb⟩
          replace Hy := Lib.hid (Hy.out.below hb)
          have HS4 := Lib.hid (HS3.out.next hb)
          replace HK := Lib.hid (HK.out.below hb)
          replace Her1 := Lib.hid (Her1.out.below hb)
          clear hb
          clear v0 v1 v2 v3 vf0 vf1 vf2 vf3 hVy hMy hUy
          have qy0 := Hy.out.c0
          have qy1 := Hy.out.c1
          have qy2 := Hy.out.c2
          have qy3 := Hy.out.c3
          go_wp2_with fail
          refine (HRA.out _ HK.out).mono ?_
          rintro e w5 ⟨rfl, hb⟩
          have HS5 := Lib.hid (HS4.out.next hb)
          replace HK := Lib.hid (HK.out.below hb)
          replace Her1 := Lib.hid (Her1.out.below hb)
          replace Hy := Lib.hid (Hy.out.below hb)
          clear qy0 qy1 qy2 qy3
          clear hb
          have qy0 := Hy.out.c0
          have qy1 := Hy.out.c1
          have qy2 := Hy.out.c2
          have qy3 := Hy.out.c3
          go_wp2_with fail
          refine (code_er _ _ _ Her1.out HS5.out.et).mono ?_
          rintro e w6 ⟨rfl, hb⟩
          have HS6 := Lib.hid (HS5.out.next hb)
          replace HK := Lib.hid (HK.out.below hb)
          replace Her1 := Lib.hid (Her1.out.below hb)
          replace Hy := Lib.hid (Hy.out.below hb)
          clear qy0 qy1 qy2 qy3
          clear hb
          have qy0 := Hy.out.c0
          have qy1 := Hy.out.c1
          have qy2 := Hy.out.c2
          have qy3 := Hy.out.c3
          go_wp2_with fail
          refine (HSH.out _ HS6.out.et HK.out).mono ?_
          rintro e w7 ⟨rfl, hb⟩
          have HS7 := Lib.hid (HS6.out.next hb)
          replace HK := Lib.hid (HK.out.below hb)
          replace Her1 := Lib.hid (Her1.out.below hb)
          replace Hy := Lib.hid (Hy.out.below hb)
          clear qy0 qy1 qy2 qy3
          clear hb
          have qy0 := Hy.out.c0
          have qy1 := Hy.out.c1
          have qy2 := Hy.out.c2
          have qy3 := Hy.out.c3
          obtain ⟨y1, y2⟩ := y
          obtain rfl : y1 = (p, v.2.2.1, v.2.2.2) := HYE.out
          go_wp2
          go_ret
          exact ⟨by first | rfl | simp, HS7.out.below⟩
        · have g1 : (n1 == 0) = false := beq_eq_false_iff_ne.2 h0
          have g2 : decide (n1 = 0) = false := decide_eq_false h0
          have g0 : (v.1 == 0) = false := by rw [e1]; exact g1
          have g3 : (n1 == v.1) = true := by rw [e1]; exact beq_iff_eq.2 rfl
          have g4 : (n1 != v.1) = false := by rw [bne, g3]; rfl
          have g5 : (v.1 != 0) = true := by rw [bne, g0]; rfl
          have HYZ := Lib.hid (show y = noF from HYZ.out h0)
          clear h0 e1 e2 e3
          go_enter Tryd.func3, Tryd.ntmps3
          go_wp2_with fail
          refine (awake12 L _ HS0.out.et).mono ?_
          rintro e w1 ⟨rfl, hb⟩
          have HS1 := Lib.hid (HS0.out.next hb)
          replace HK := Lib.hid (HK.out.below hb)
          clear hb
          go_wp2_with fail
          refine (few10 S a cap _ HK.out).mono ?_
          rintro e w9 ⟨rfl, rfl⟩
          rw [hF1]
          go_wp2_with fail
          refine (HAT.out _ HS1.out.et HK.out).mono ?_
          rintro e w2 ⟨er1, rfl, e9, hb⟩
          have Her1 := Lib.hid e9
          clear e9
          have HS2 := Lib.hid (HS1.out.next hb)
          replace HK := Lib.hid (HK.out.below hb)
          clear hb
          obtain ⟨Vy, Uy, My, hVy, hMy, hUy, hv, hu, hb⟩ := fd_box w2 y
          have v0 := hv.c0
          have v1 := hv.c1
          have v2 := hv.c2
          have v3 := hv.c3
          have vf0 := hv.f0
          have vf1 := hv.f1
          have vf2 := hv.f2
          have vf3 := hv.f3
          have Hy := Lib.hid hu
          clear hv hu
          have HS3 := Lib.hid (HS2.out.next hb)
          replace HK := Lib.hid (HK.out.below hb)
          replace Her1 := Lib.hid (Her1.out.below hb)
          clear hb
          go_wp2_with fail
          refine (HRR.out _ HK.out).mono ?_
          rintro e w4 ⟨rfl, hb⟩
          replace Hy := Lib.hid (Hy.out.below hb)
          have HS4 := Lib.hid (HS3.out.next hb)
          replace HK := Lib.hid (HK.out.below hb)
          replace Her1 := Lib.hid (Her1.out.below hb)
          clear hb
          clear v0 v1 v2 v3 vf0 vf1 vf2 vf3 hVy hMy hUy
          have qy0 := Hy.out.c0
          have qy1 := Hy.out.c1
          have qy2 := Hy.out.c2
          have qy3 := Hy.out.c3
          go_wp2_with fail
          refine (HRA.out _ HK.out).mono ?_
          rintro e w5 ⟨rfl, hb⟩
          have HS5 := Lib.hid (HS4.out.next hb)
          replace HK := Lib.hid (HK.out.below hb)
          replace Her1 := Lib.hid (Her1.out.below hb)
          replace Hy := Lib.hid (Hy.out.below hb)
          clear qy0 qy1 qy2 qy3
          clear hb
          have qy0 := Hy.out.c0
          have qy1 := Hy.out.c1
          have qy2 := Hy.out.c2
          have qy3 := Hy.out.c3
          go_wp2_with fail
          refine (code_er _ _ _ Her1.out HS5.out.et).mono ?_
          rintro e w6 ⟨rfl, hb⟩
          have HS6 := Lib.hid (HS5.out.next hb)
          replace HK := Lib.hid (HK.out.below hb)
          replace Her1 := Lib.hid (Her1.out.below hb)
          replace Hy := Lib.hid (Hy.out.below hb)
          clear qy0 qy1 qy2 qy3
          clear hb
          have qy0 := Hy.out.c0
          have qy1 := Hy.out.c1
          have qy2 := Hy.out.c2
          have qy3 := Hy.out.c3
          go_wp2_with fail
          refine (HSH.out _ HS6.out.et HK.out).mono ?_
          rintro e w7 ⟨rfl, hb⟩
          have HS7 := Lib.hid (HS6.out.next hb)
          replace HK := Lib.hid (HK.out.below hb)
          replace Her1 := Lib.hid (Her1.out.below hb)
          replace Hy := Lib.hid (Hy.out.below hb)
          clear qy0 qy1 qy2 qy3
          clear hb
          have qy0 := Hy.out.c0
          have qy1 := Hy.out.c1
          have qy2 := Hy.out.c2
          have qy3 := Hy.out.c3
          obtain rfl : y = noF := HYZ.out
          go_wp2
          go_ret
          exact ⟨by first | rfl | simp, HS7.out.below⟩
      · rw [decide_eq_false (show ¬ (S.length ≤ 9 ∧ ∀ l ∈ S, RightL l) from hok)] at HRR
        rw [lkV_bad hok] at hn1 hy
        have hn1 : (16 : Int) = n1 := hn1
        subst hn1
        have HYZ := Lib.hid (show y = noF from hy.symm)
        clear hok hy
        go_enter Tryd.func3, Tryd.ntmps3
        go_wp2_with fail
        refine (awake12 L _ HS0.out.et).mono ?_
        rintro e w1 ⟨rfl, hb⟩
        have HS1 := Lib.hid (HS0.out.next hb)
        replace HK := Lib.hid (HK.out.below hb)
        clear hb
        go_wp2_with fail
        refine (few10 S a cap _ HK.out).mono ?_
        rintro e w9 ⟨rfl, rfl⟩
        rw [hF1]
        go_wp2_with fail
        refine (HAT.out _ HS1.out.et HK.out).mono ?_
        rintro e w2 ⟨er1, rfl, e9, hb⟩
        have Her1 := Lib.hid e9
        clear e9
        have HS2 := Lib.hid (HS1.out.next hb)
        replace HK := Lib.hid (HK.out.below hb)
        clear hb
        obtain ⟨Vy, Uy, My, hVy, hMy, hUy, hv, hu, hb⟩ := fd_box w2 y
        have v0 := hv.c0
        have v1 := hv.c1
        have v2 := hv.c2
        have v3 := hv.c3
        have vf0 := hv.f0
        have vf1 := hv.f1
        have vf2 := hv.f2
        have vf3 := hv.f3
        have Hy := Lib.hid hu
        clear hv hu
        have HS3 := Lib.hid (HS2.out.next hb)
        replace HK := Lib.hid (HK.out.below hb)
        replace Her1 := Lib.hid (Her1.out.below hb)
        clear hb
        go_wp2_with fail
        refine (HRR.out _ HK.out).mono ?_
        rintro e w4 ⟨rfl, hb⟩
        replace Hy := Lib.hid (Hy.out.below hb)
        have HS4 := Lib.hid (HS3.out.next hb)
        replace HK := Lib.hid (HK.out.below hb)
        replace Her1 := Lib.hid (Her1.out.below hb)
        clear hb
        clear v0 v1 v2 v3 vf0 vf1 vf2 vf3 hVy hMy hUy
        have qy0 := Hy.out.c0
        have qy1 := Hy.out.c1
        have qy2 := Hy.out.c2
        have qy3 := Hy.out.c3
        go_wp2_with fail
        refine (code_er _ _ _ Her1.out HS4.out.et).mono ?_
        rintro e w5 ⟨rfl, hb⟩
        have HS5 := Lib.hid (HS4.out.next hb)
        replace HK := Lib.hid (HK.out.below hb)
        replace Her1 := Lib.hid (Her1.out.below hb)
        replace Hy := Lib.hid (Hy.out.below hb)
        clear qy0 qy1 qy2 qy3
        clear hb
        have qy0 := Hy.out.c0
        have qy1 := Hy.out.c1
        have qy2 := Hy.out.c2
        have qy3 := Hy.out.c3
        obtain rfl : y = noF := HYZ.out
        go_wp2_with fail
        refine (HSH.out _ HS5.out.et HK.out).mono ?_
        rintro e w6 ⟨rfl, hb⟩
        have HS6 := Lib.hid (HS5.out.next hb)
        replace HK := Lib.hid (HK.out.below hb)
        replace Her1 := Lib.hid (Her1.out.below hb)
        replace Hy := Lib.hid (Hy.out.below hb)
        clear qy0 qy1 qy2 qy3
        clear hb
        have qy0 := Hy.out.c0
        have qy1 := Hy.out.c1
        have qy2 := Hy.out.c2
        have qy3 := Hy.out.c3
        go_wp2
        go_ret
        exact ⟨by first | rfl | simp, HS6.out.below⟩
  · have hF1 : (if FewOK S then (1 : Int) else 0) = 0 := if_neg hf
    clear hf
    go_enter Tryd.func3, Tryd.ntmps3
    go_wp2_with fail
    refine (awake12 L _ HS0.out.et).mono ?_
    rintro e w1 ⟨rfl, hb⟩
    have HS1 := Lib.hid (HS0.out.next hb)
    replace HK := Lib.hid (HK.out.below hb)
    clear hb
    go_wp2_with fail
    refine (few10 S a cap _ HK.out).mono ?_
    rintro e w9 ⟨rfl, rfl⟩
    rw [hF1]
    go_wp2_with fail
    refine (awake12 L _ HS1.out.et).mono ?_
    rintro e w2 ⟨rfl, hb⟩
    have HS2 := Lib.hid (HS1.out.next hb)
    replace HK := Lib.hid (HK.out.below hb)
    clear hb
    go_wp2
    go_ret
    exact ⟨by first | rfl | simp, HS2.out.below⟩
end Go.Proofs.YthpobihpdomhoaaDoor
