/-
  The law LookParents walked over Look12 and Dir12: for every stack and text it returns true and changes nothing that was there. Conditions: package look answers as Look12 and Dir12 say; the stack lies in memory; errorType holds error's type.
-/
import Derived.Test.YthpobihpdomhoaaDoorS12Awake
import Derived.Test.YthpobihpdomhoaaDoorS12Few
import Derived.Test.YthpobihpdomhoaaDoorS10Par
namespace Go.Proofs.YthpobihpdomhoaaDoor
open Go.RowKit

set_option maxRecDepth 10000 in
set_option maxHeartbeats 8000000 in
theorem lawParents12 (L : Look12) (LD : Dir12) (S : List (List Ent)) (p : ByteArray) (a : Option Addr) (cap : Nat) (W : World) (hg : EtLaid W) (hk : Stk W a cap S) : Calls Tryd.prog 6 #[.slice a S.length cap, .string p] W fun e w' => e = .returned (.bool true) ∧ Below W.heap.size W w' := by
  have HS0 := Lib.hid (st_self hg)
  have HK := Lib.hid hk
  clear hg hk
  by_cases hf : FewOK S
  · have hF1 : (if FewOK S then (1 : Int) else 0) = 1 := if_pos hf
    have HFW := Lib.hid hf
    have HSS := Lib.hid (few_sm12 hf)
    clear hf
    by_cases hp : (100 : Int) < (p.size : Int)
    · go_enter Tryd.func6, Tryd.ntmps6
      go_wp2_with fail
      refine (awake12 L _ HS0.out.et).mono ?_
      rintro e w1 ⟨rfl, hb⟩
      have HS1 := Lib.hid (HS0.out.next hb)
      replace HK := Lib.hid (HK.out.below hb)
      clear hb
      go_wp2_with fail
      refine (few10 S a cap _ HK.out).mono ?_
      rintro e w9 ⟨rfl, rfl⟩
      rw [hF1]
      go_wp2_with fail
      refine (awake12 L _ HS1.out.et).mono ?_
      rintro e w2 ⟨rfl, hb⟩
      have HS2 := Lib.hid (HS1.out.next hb)
      replace HK := Lib.hid (HK.out.below hb)
      clear hb
      go_wp2
      go_ret
      exact ⟨by first | rfl | simp, HS2.out.below⟩
    · have HP := Lib.hid (show p.size ≤ 100 by omega)

      obtain ⟨n1, hn1⟩ : ∃ n, (lkV S p.data.toList).1 = n := ⟨_, rfl⟩
      obtain ⟨y, hy⟩ : ∃ y, (lkV S p.data.toList).2 = y := ⟨_, rfl⟩
      have HAT : Hid (∀ w, EtLaid w → Stk w a cap S → Calls Tryd.prog 10 #[.slice a S.length cap, .string p] w fun e w' => ∃ er, e = .returned (.tuple #[fdnV y, er]) ∧ Er w' n1 er ∧ Below w.heap.size w w') := fun w h1 h2 => by
        have := L S a cap p w h1 h2 HSS.out.1 HSS.out.2 (by have := HP.out; omega)
        rw [hn1, hy] at this
        exact this
      by_cases h1 : n1 = 0
      · subst h1
        have HOK := Lib.hid (lkV_zero hn1)
        rw [lkV_ok HOK.out.1] at hn1 hy
        have HN := Lib.hid hn1
        have HY := Lib.hid hy
        clear hn1 hy
        by_cases hr : p.data.toList = [47]
        · have g3 : (p.toList == [47]) = true := by rw [Lib.toList_data, beq_iff_eq]; exact hr
          clear hr
          go_enter Tryd.func6, Tryd.ntmps6
          go_wp2_with fail
          refine (awake12 L _ HS0.out.et).mono ?_
          rintro e w1 ⟨rfl, hb⟩
          have HS1 := Lib.hid (HS0.out.next hb)
          replace HK := Lib.hid (HK.out.below hb)
          clear hb
          go_wp2_with fail
          refine (few10 S a cap _ HK.out).mono ?_
          rintro e w9 ⟨rfl, rfl⟩
          rw [hF1]
          go_wp2_with fail
          refine (HAT.out _ HS1.out.et HK.out).mono ?_
          rintro e w2 ⟨er1, rfl, e9, hb⟩
          have Her1 := Lib.hid e9
          clear e9
          have HS2 := Lib.hid (HS1.out.next hb)
          replace HK := Lib.hid (HK.out.below hb)
          clear hb
          obtain ⟨Vy, Uy, My, hVy, hMy, hUy, hv, hu, hb⟩ := fd_box w2 y
          have v0 := hv.c0
          have v1 := hv.c1
          have v2 := hv.c2
          have v3 := hv.c3
          have vf0 := hv.f0
          have vf1 := hv.f1
          have vf2 := hv.f2
          have vf3 := hv.f3
          have Hy := Lib.hid hu
          clear hv hu
          have HS3 := Lib.hid (HS2.out.next hb)
          replace HK := Lib.hid (HK.out.below hb)
          replace Her1 := Lib.hid (Her1.out.below hb)
          clear hb
          go_wp2_with fail
          refine (code_er _ _ _ Her1.out HS3.out.et).mono ?_
          rintro e w4 ⟨rfl, hb⟩
          replace Hy := Lib.hid (Hy.out.below hb)
          have HS4 := Lib.hid (HS3.out.next hb)
          replace HK := Lib.hid (HK.out.below hb)
          replace Her1 := Lib.hid (Her1.out.below hb)
          clear hb
          clear v0 v1 v2 v3 vf0 vf1 vf2 vf3 hVy hMy hUy
          have qy0 := Hy.out.c0
          have qy1 := Hy.out.c1
          have qy2 := Hy.out.c2
          have qy3 := Hy.out.c3
          go_wp2
          go_ret
          exact ⟨by first | rfl | simp, HS4.out.below⟩
        · have g3 : (p.toList == [47]) = false := by rw [Lib.toList_data, beq_eq_false_iff_ne]; exact hr
          have HNR := Lib.hid hr
          obtain ⟨hu1, hu2, _⟩ := atS_up HOK.out.2 hr HN.out
          obtain ⟨f0, hf0⟩ : ∃ f, (atS S (par9 p.data.toList)).2.2 = f := ⟨_, rfl⟩
          have hfl := floor_par HOK.out.2 hr HN.out
          rw [hf0, HY.out] at hfl
          have HDR := Lib.hid (show drV S (par9 p.data.toList) = (0, f0) by unfold drV; rw [lkV_ok HOK.out.1, if_neg (not_not_intro hu1), if_neg (not_not_intro hu2), hf0])
          have HPAR := Lib.hid (fun W => par10 p HOK.out.2 W)
          have hg1 : ¬ (f0 : Int) > (y.2 : Int) := by omega
          have hg2 : ¬ (y.2 : Int) < 0 := by omega
          have hg3 : ¬ (y.2 : Int) ≥ (S.length : Int) := by omega
          have z1 : ¬ 9223372036854775807 < p.size + 2 := by have := HP.out; omega
          obtain ⟨q, hq⟩ : ∃ q, p ++ (⟨#[47, 120]⟩ : ByteArray) = q := ⟨_, rfl⟩
          have HQ := Lib.hid (show q.data.toList = p.data.toList ++ [47, 120] by rw [← hq, ByteArray.data_append]; simp)
          have HQS := Lib.hid (show q.size ≤ 102 by rw [← hq, ByteArray.size_append]; have := HP.out; show p.size + 2 ≤ 102; omega)
          obtain ⟨n2, hn2⟩ : ∃ n, (lkV S q.data.toList).1 = n := ⟨_, rfl⟩
          obtain ⟨y2, hy2⟩ : ∃ y, (lkV S q.data.toList).2 = y := ⟨_, rfl⟩
          have HAT2 : Hid (∀ w, EtLaid w → Stk w a cap S → Calls Tryd.prog 10 #[.slice a S.length cap, .string q] w fun e w' => ∃ er, e = .returned (.tuple #[fdnV y2, er]) ∧ Er w' n2 er ∧ Below w.heap.size w w') := fun w h1 h2 => by
            have := L S a cap q w h1 h2 HSS.out.1 HSS.out.2 (by have := HQS.out; omega)
            rw [hn2, hy2] at this
            exact this
          obtain ⟨d6, hd6⟩ : ∃ d, dp p.data.toList = d := ⟨_, rfl⟩
          have HDP := Lib.hid (fun W => deep_any p (by have := HP.out; omega) W)
          rw [hd6] at HDP
          have ways : (y.1.2.1 == 1) = false ∨ (y.1.2.1 == 1) = true ∧ (d6 == 6) = true ∨ (y.1.2.1 == 1) = true ∧ (d6 == 6) = false ∧ (n2 == 6) = true := by
            by_cases h1 : y.1.2.1 = 1
            · by_cases h6 : d6 = 6
              · exact .inr (.inl ⟨beq_iff_eq.2 h1, beq_iff_eq.2 h6⟩)
              · refine .inr (.inr ⟨beq_iff_eq.2 h1, beq_eq_false_iff_ne.2 h6, beq_iff_eq.2 ?_⟩)
                have hpl : (pcs p.data.toList).length < 6 := by
                  have h7 := dp_pos HOK.out.2
                  rw [hd6] at h7
                  have h8 := HOK.out.2.2.1
                  omega
                have := (at_under_file HOK.out.1.2 HOK.out.2 HN.out (by rw [HY.out]; exact h1) hpl).2
                rw [← hn2, lkV_ok HOK.out.1, HQ.out]
                exact this
            · exact .inl (beq_eq_false_iff_ne.2 h1)
          clear hr hu1 hu2 hf0 hfl hn2 hy2 hd6
          rcases ways with k1 | ⟨k1, k2⟩ | ⟨k1, k2, k3⟩
          · go_enter Tryd.func6, Tryd.ntmps6
            go_wp2_with fail
            refine (awake12 L _ HS0.out.et).mono ?_
            rintro e w1 ⟨rfl, hb⟩
            have HS1 := Lib.hid (HS0.out.next hb)
            replace HK := Lib.hid (HK.out.below hb)
            clear hb
            go_wp2_with fail
            refine (few10 S a cap _ HK.out).mono ?_
            rintro e w9 ⟨rfl, rfl⟩
            rw [hF1]
            go_wp2_with fail
            refine (HAT.out _ HS1.out.et HK.out).mono ?_
            rintro e w2 ⟨er1, rfl, e9, hb⟩
            have Her1 := Lib.hid e9
            clear e9
            have HS2 := Lib.hid (HS1.out.next hb)
            replace HK := Lib.hid (HK.out.below hb)
            clear hb
            obtain ⟨Vy, Uy, My, hVy, hMy, hUy, hv, hu, hb⟩ := fd_box w2 y
            have v0 := hv.c0
            have v1 := hv.c1
            have v2 := hv.c2
            have v3 := hv.c3
            have vf0 := hv.f0
            have vf1 := hv.f1
            have vf2 := hv.f2
            have vf3 := hv.f3
            have Hy := Lib.hid hu
            clear hv hu
            have HS3 := Lib.hid (HS2.out.next hb)
            replace HK := Lib.hid (HK.out.below hb)
            replace Her1 := Lib.hid (Her1.out.below hb)
            clear hb
            go_wp2_with fail
            refine (code_er _ _ _ Her1.out HS3.out.et).mono ?_
            rintro e w4 ⟨rfl, hb⟩
            replace Hy := Lib.hid (Hy.out.below hb)
            have HS4 := Lib.hid (HS3.out.next hb)
            replace HK := Lib.hid (HK.out.below hb)
            replace Her1 := Lib.hid (Her1.out.below hb)
            clear hb
            clear v0 v1 v2 v3 vf0 vf1 vf2 vf3 hVy hMy hUy
            have qy0 := Hy.out.c0
            have qy1 := Hy.out.c1
            have qy2 := Hy.out.c2
            have qy3 := Hy.out.c3
            go_wp2_with fail
            refine (HPAR.out _).mono ?_
            rintro e w5 ⟨d, nm, er, rfl, ho, hb⟩
            have HS5 := Lib.hid (HS4.out.next hb)
            replace HK := Lib.hid (HK.out.below hb)
            replace Her1 := Lib.hid (Her1.out.below hb)
            replace Hy := Lib.hid (Hy.out.below hb)
            clear qy0 qy1 qy2 qy3
            clear hb
            have qy0 := Hy.out.c0
            have qy1 := Hy.out.c1
            have qy2 := Hy.out.c2
            have qy3 := Hy.out.c3
            obtain ⟨h9, _⟩ | ⟨_, rfl, hd⟩ := ho
            · exact absurd h9 HNR.out
            have HDD := Lib.hid (LD S a cap d _ HS5.out.et HK.out HSS.out.1 HSS.out.2 (by
              have h54 := isP_len (par9_isP HOK.out.2 HNR.out).1
              rw [← hd, ← Lib.size_eq] at h54
              omega))
            rw [hd, HDR.out] at HDD
            clear hd
            go_wp2_with fail
            refine (HDD.out).mono ?_
            rintro e w6 ⟨er2, rfl, e9, hb⟩
            have Her2 := Lib.hid e9
            clear e9
            have HS6 := Lib.hid (HS5.out.next hb)
            replace HK := Lib.hid (HK.out.below hb)
            replace Her1 := Lib.hid (Her1.out.below hb)
            replace Hy := Lib.hid (Hy.out.below hb)
            clear qy0 qy1 qy2 qy3
            clear hb
            have qy0 := Hy.out.c0
            have qy1 := Hy.out.c1
            have qy2 := Hy.out.c2
            have qy3 := Hy.out.c3
            have Her3 := Lib.hid (er_nil w6)
            go_wp2_with fail
            refine (code_er _ _ _ Her3.out HS6.out.et).mono ?_
            rintro e w7 ⟨rfl, hb⟩
            have HS7 := Lib.hid (HS6.out.next hb)
            replace HK := Lib.hid (HK.out.below hb)
            replace Her1 := Lib.hid (Her1.out.below hb)
            replace Hy := Lib.hid (Hy.out.below hb)
            replace Her2 := Lib.hid (Her2.out.below hb)
            replace Her3 := Lib.hid (Her3.out.below hb)
            clear qy0 qy1 qy2 qy3
            clear hb
            have qy0 := Hy.out.c0
            have qy1 := Hy.out.c1
            have qy2 := Hy.out.c2
            have qy3 := Hy.out.c3
            go_wp2_with fail
            refine (code_er _ _ _ Her2.out HS7.out.et).mono ?_
            rintro e w8 ⟨rfl, hb⟩
            have HS8 := Lib.hid (HS7.out.next hb)
            replace HK := Lib.hid (HK.out.below hb)
            replace Her1 := Lib.hid (Her1.out.below hb)
            replace Hy := Lib.hid (Hy.out.below hb)
            replace Her2 := Lib.hid (Her2.out.below hb)
            replace Her3 := Lib.hid (Her3.out.below hb)
            clear qy0 qy1 qy2 qy3
            clear hb
            have qy0 := Hy.out.c0
            have qy1 := Hy.out.c1
            have qy2 := Hy.out.c2
            have qy3 := Hy.out.c3
            go_wp2_with fail
            refine (HAT2.out _ HS8.out.et HK.out).mono ?_
            rintro e w9 ⟨er4, rfl, e9, hb⟩
            have Her4 := Lib.hid e9
            clear e9
            have HS9 := Lib.hid (HS8.out.next hb)
            replace HK := Lib.hid (HK.out.below hb)
            replace Her1 := Lib.hid (Her1.out.below hb)
            replace Hy := Lib.hid (Hy.out.below hb)
            replace Her2 := Lib.hid (Her2.out.below hb)
            replace Her3 := Lib.hid (Her3.out.below hb)
            clear qy0 qy1 qy2 qy3
            clear hb
            have qy0 := Hy.out.c0
            have qy1 := Hy.out.c1
            have qy2 := Hy.out.c2
            have qy3 := Hy.out.c3
            obtain ⟨Vz, Uz, Mz, hVz, hMz, hUz, hv, hu, hb⟩ := fd_box w9 y2
            have v0 := hv.c0
            have v1 := hv.c1
            have v2 := hv.c2
            have v3 := hv.c3
            have vf0 := hv.f0
            have vf1 := hv.f1
            have vf2 := hv.f2
            have vf3 := hv.f3
            have Hz := Lib.hid hu
            clear hv hu
            have HS10 := Lib.hid (HS9.out.next hb)
            replace HK := Lib.hid (HK.out.below hb)
            replace Her1 := Lib.hid (Her1.out.below hb)
            replace Hy := Lib.hid (Hy.out.below hb)
            replace Her2 := Lib.hid (Her2.out.below hb)
            replace Her3 := Lib.hid (Her3.out.below hb)
            replace Her4 := Lib.hid (Her4.out.below hb)
            clear qy0 qy1 qy2 qy3
            clear hb
            have qy0 := Hy.out.c0
            have qy1 := Hy.out.c1
            have qy2 := Hy.out.c2
            have qy3 := Hy.out.c3
            have k4 : (y.1.2.1 != 1) = true := by rw [bne, k1]; rfl
            go_wp2
            go_ret
            exact ⟨by first | rfl | simp, HS10.out.below⟩
          · go_enter Tryd.func6, Tryd.ntmps6
            go_wp2_with fail
            refine (awake12 L _ HS0.out.et).mono ?_
            rintro e w1 ⟨rfl, hb⟩
            have HS1 := Lib.hid (HS0.out.next hb)
            replace HK := Lib.hid (HK.out.below hb)
            clear hb
            go_wp2_with fail
            refine (few10 S a cap _ HK.out).mono ?_
            rintro e w9 ⟨rfl, rfl⟩
            rw [hF1]
            go_wp2_with fail
            refine (HAT.out _ HS1.out.et HK.out).mono ?_
            rintro e w2 ⟨er1, rfl, e9, hb⟩
            have Her1 := Lib.hid e9
            clear e9
            have HS2 := Lib.hid (HS1.out.next hb)
            replace HK := Lib.hid (HK.out.below hb)
            clear hb
            obtain ⟨Vy, Uy, My, hVy, hMy, hUy, hv, hu, hb⟩ := fd_box w2 y
            have v0 := hv.c0
            have v1 := hv.c1
            have v2 := hv.c2
            have v3 := hv.c3
            have vf0 := hv.f0
            have vf1 := hv.f1
            have vf2 := hv.f2
            have vf3 := hv.f3
            have Hy := Lib.hid hu
            clear hv hu
            have HS3 := Lib.hid (HS2.out.next hb)
            replace HK := Lib.hid (HK.out.below hb)
            replace Her1 := Lib.hid (Her1.out.below hb)
            clear hb
            go_wp2_with fail
            refine (code_er _ _ _ Her1.out HS3.out.et).mono ?_
            rintro e w4 ⟨rfl, hb⟩
            replace Hy := Lib.hid (Hy.out.below hb)
            have HS4 := Lib.hid (HS3.out.next hb)
            replace HK := Lib.hid (HK.out.below hb)
            replace Her1 := Lib.hid (Her1.out.below hb)
            clear hb
            clear v0 v1 v2 v3 vf0 vf1 vf2 vf3 hVy hMy hUy
            have qy0 := Hy.out.c0
            have qy1 := Hy.out.c1
            have qy2 := Hy.out.c2
            have qy3 := Hy.out.c3
            go_wp2_with fail
            refine (HPAR.out _).mono ?_
            rintro e w5 ⟨d, nm, er, rfl, ho, hb⟩
            have HS5 := Lib.hid (HS4.out.next hb)
            replace HK := Lib.hid (HK.out.below hb)
            replace Her1 := Lib.hid (Her1.out.below hb)
            replace Hy := Lib.hid (Hy.out.below hb)
            clear qy0 qy1 qy2 qy3
            clear hb
            have qy0 := Hy.out.c0
            have qy1 := Hy.out.c1
            have qy2 := Hy.out.c2
            have qy3 := Hy.out.c3
            obtain ⟨h9, _⟩ | ⟨_, rfl, hd⟩ := ho
            · exact absurd h9 HNR.out
            have HDD := Lib.hid (LD S a cap d _ HS5.out.et HK.out HSS.out.1 HSS.out.2 (by
              have h54 := isP_len (par9_isP HOK.out.2 HNR.out).1
              rw [← hd, ← Lib.size_eq] at h54
              omega))
            rw [hd, HDR.out] at HDD
            clear hd
            go_wp2_with fail
            refine (HDD.out).mono ?_
            rintro e w6 ⟨er2, rfl, e9, hb⟩
            have Her2 := Lib.hid e9
            clear e9
            have HS6 := Lib.hid (HS5.out.next hb)
            replace HK := Lib.hid (HK.out.below hb)
            replace Her1 := Lib.hid (Her1.out.below hb)
            replace Hy := Lib.hid (Hy.out.below hb)
            clear qy0 qy1 qy2 qy3
            clear hb
            have qy0 := Hy.out.c0
            have qy1 := Hy.out.c1
            have qy2 := Hy.out.c2
            have qy3 := Hy.out.c3
            have Her3 := Lib.hid (er_nil w6)
            go_wp2_with fail
            refine (code_er _ _ _ Her3.out HS6.out.et).mono ?_
            rintro e w7 ⟨rfl, hb⟩
            have HS7 := Lib.hid (HS6.out.next hb)
            replace HK := Lib.hid (HK.out.below hb)
            replace Her1 := Lib.hid (Her1.out.below hb)
            replace Hy := Lib.hid (Hy.out.below hb)
            replace Her2 := Lib.hid (Her2.out.below hb)
            replace Her3 := Lib.hid (Her3.out.below hb)
            clear qy0 qy1 qy2 qy3
            clear hb
            have qy0 := Hy.out.c0
            have qy1 := Hy.out.c1
            have qy2 := Hy.out.c2
            have qy3 := Hy.out.c3
            go_wp2_with fail
            refine (code_er _ _ _ Her2.out HS7.out.et).mono ?_
            rintro e w8 ⟨rfl, hb⟩
            have HS8 := Lib.hid (HS7.out.next hb)
            replace HK := Lib.hid (HK.out.below hb)
            replace Her1 := Lib.hid (Her1.out.below hb)
            replace Hy := Lib.hid (Hy.out.below hb)
            replace Her2 := Lib.hid (Her2.out.below hb)
            replace Her3 := Lib.hid (Her3.out.below hb)
            clear qy0 qy1 qy2 qy3
            clear hb
            have qy0 := Hy.out.c0
            have qy1 := Hy.out.c1
            have qy2 := Hy.out.c2
            have qy3 := Hy.out.c3
            go_wp2_with fail
            refine (HAT2.out _ HS8.out.et HK.out).mono ?_
            rintro e w9 ⟨er4, rfl, e9, hb⟩
            have Her4 := Lib.hid e9
            clear e9
            have HS9 := Lib.hid (HS8.out.next hb)
            replace HK := Lib.hid (HK.out.below hb)
            replace Her1 := Lib.hid (Her1.out.below hb)
            replace Hy := Lib.hid (Hy.out.below hb)
            replace Her2 := Lib.hid (Her2.out.below hb)
            replace Her3 := Lib.hid (Her3.out.below hb)
            clear qy0 qy1 qy2 qy3
            clear hb
            have qy0 := Hy.out.c0
            have qy1 := Hy.out.c1
            have qy2 := Hy.out.c2
            have qy3 := Hy.out.c3
            obtain ⟨Vz, Uz, Mz, hVz, hMz, hUz, hv, hu, hb⟩ := fd_box w9 y2
            have v0 := hv.c0
            have v1 := hv.c1
            have v2 := hv.c2
            have v3 := hv.c3
            have vf0 := hv.f0
            have vf1 := hv.f1
            have vf2 := hv.f2
            have vf3 := hv.f3
            have Hz := Lib.hid hu
            clear hv hu
            have HS10 := Lib.hid (HS9.out.next hb)
            replace HK := Lib.hid (HK.out.below hb)
            replace Her1 := Lib.hid (Her1.out.below hb)
            replace Hy := Lib.hid (Hy.out.below hb)
            replace Her2 := Lib.hid (Her2.out.below hb)
            replace Her3 := Lib.hid (Her3.out.below hb)
            replace Her4 := Lib.hid (Her4.out.below hb)
            clear qy0 qy1 qy2 qy3
            clear hb
            have qy0 := Hy.out.c0
            have qy1 := Hy.out.c1
            have qy2 := Hy.out.c2
            have qy3 := Hy.out.c3
            have k4 : (y.1.2.1 != 1) = false := by rw [bne, k1]; rfl
            go_wp2_with fail
            refine (HDP.out _).mono ?_
            rintro e w11 ⟨rfl, hb⟩
            replace Hz := Lib.hid (Hz.out.below hb)
            have HS11 := Lib.hid (HS10.out.next hb)
            replace HK := Lib.hid (HK.out.below hb)
            replace Her1 := Lib.hid (Her1.out.below hb)
            replace Hy := Lib.hid (Hy.out.below hb)
            replace Her2 := Lib.hid (Her2.out.below hb)
            replace Her3 := Lib.hid (Her3.out.below hb)
            replace Her4 := Lib.hid (Her4.out.below hb)
            clear qy0 qy1 qy2 qy3
            clear hb
            have qy0 := Hy.out.c0
            have qy1 := Hy.out.c1
            have qy2 := Hy.out.c2
            have qy3 := Hy.out.c3
            clear v0 v1 v2 v3 vf0 vf1 vf2 vf3 hVz hMz hUz
            have qz0 := Hz.out.c0
            have qz1 := Hz.out.c1
            have qz2 := Hz.out.c2
            have qz3 := Hz.out.c3
            go_wp2
            go_ret
            exact ⟨by first | rfl | simp, HS11.out.below⟩
          · go_enter Tryd.func6, Tryd.ntmps6
            go_wp2_with fail
            refine (awake12 L _ HS0.out.et).mono ?_
            rintro e w1 ⟨rfl, hb⟩
            have HS1 := Lib.hid (HS0.out.next hb)
            replace HK := Lib.hid (HK.out.below hb)
            clear hb
            go_wp2_with fail
            refine (few10 S a cap _ HK.out).mono ?_
            rintro e w9 ⟨rfl, rfl⟩
            rw [hF1]
            go_wp2_with fail
            refine (HAT.out _ HS1.out.et HK.out).mono ?_
            rintro e w2 ⟨er1, rfl, e9, hb⟩
            have Her1 := Lib.hid e9
            clear e9
            have HS2 := Lib.hid (HS1.out.next hb)
            replace HK := Lib.hid (HK.out.below hb)
            clear hb
            obtain ⟨Vy, Uy, My, hVy, hMy, hUy, hv, hu, hb⟩ := fd_box w2 y
            have v0 := hv.c0
            have v1 := hv.c1
            have v2 := hv.c2
            have v3 := hv.c3
            have vf0 := hv.f0
            have vf1 := hv.f1
            have vf2 := hv.f2
            have vf3 := hv.f3
            have Hy := Lib.hid hu
            clear hv hu
            have HS3 := Lib.hid (HS2.out.next hb)
            replace HK := Lib.hid (HK.out.below hb)
            replace Her1 := Lib.hid (Her1.out.below hb)
            clear hb
            go_wp2_with fail
            refine (code_er _ _ _ Her1.out HS3.out.et).mono ?_
            rintro e w4 ⟨rfl, hb⟩
            replace Hy := Lib.hid (Hy.out.below hb)
            have HS4 := Lib.hid (HS3.out.next hb)
            replace HK := Lib.hid (HK.out.below hb)
            replace Her1 := Lib.hid (Her1.out.below hb)
            clear hb
            clear v0 v1 v2 v3 vf0 vf1 vf2 vf3 hVy hMy hUy
            have qy0 := Hy.out.c0
            have qy1 := Hy.out.c1
            have qy2 := Hy.out.c2
            have qy3 := Hy.out.c3
            go_wp2_with fail
            refine (HPAR.out _).mono ?_
            rintro e w5 ⟨d, nm, er, rfl, ho, hb⟩
            have HS5 := Lib.hid (HS4.out.next hb)
            replace HK := Lib.hid (HK.out.below hb)
            replace Her1 := Lib.hid (Her1.out.below hb)
            replace Hy := Lib.hid (Hy.out.below hb)
            clear qy0 qy1 qy2 qy3
            clear hb
            have qy0 := Hy.out.c0
            have qy1 := Hy.out.c1
            have qy2 := Hy.out.c2
            have qy3 := Hy.out.c3
            obtain ⟨h9, _⟩ | ⟨_, rfl, hd⟩ := ho
            · exact absurd h9 HNR.out
            have HDD := Lib.hid (LD S a cap d _ HS5.out.et HK.out HSS.out.1 HSS.out.2 (by
              have h54 := isP_len (par9_isP HOK.out.2 HNR.out).1
              rw [← hd, ← Lib.size_eq] at h54
              omega))
            rw [hd, HDR.out] at HDD
            clear hd
            go_wp2_with fail
            refine (HDD.out).mono ?_
            rintro e w6 ⟨er2, rfl, e9, hb⟩
            have Her2 := Lib.hid e9
            clear e9
            have HS6 := Lib.hid (HS5.out.next hb)
            replace HK := Lib.hid (HK.out.below hb)
            replace Her1 := Lib.hid (Her1.out.below hb)
            replace Hy := Lib.hid (Hy.out.below hb)
            clear qy0 qy1 qy2 qy3
            clear hb
            have qy0 := Hy.out.c0
            have qy1 := Hy.out.c1
            have qy2 := Hy.out.c2
            have qy3 := Hy.out.c3
            have Her3 := Lib.hid (er_nil w6)
            go_wp2_with fail
            refine (code_er _ _ _ Her3.out HS6.out.et).mono ?_
            rintro e w7 ⟨rfl, hb⟩
            have HS7 := Lib.hid (HS6.out.next hb)
            replace HK := Lib.hid (HK.out.below hb)
            replace Her1 := Lib.hid (Her1.out.below hb)
            replace Hy := Lib.hid (Hy.out.below hb)
            replace Her2 := Lib.hid (Her2.out.below hb)
            replace Her3 := Lib.hid (Her3.out.below hb)
            clear qy0 qy1 qy2 qy3
            clear hb
            have qy0 := Hy.out.c0
            have qy1 := Hy.out.c1
            have qy2 := Hy.out.c2
            have qy3 := Hy.out.c3
            go_wp2_with fail
            refine (code_er _ _ _ Her2.out HS7.out.et).mono ?_
            rintro e w8 ⟨rfl, hb⟩
            have HS8 := Lib.hid (HS7.out.next hb)
            replace HK := Lib.hid (HK.out.below hb)
            replace Her1 := Lib.hid (Her1.out.below hb)
            replace Hy := Lib.hid (Hy.out.below hb)
            replace Her2 := Lib.hid (Her2.out.below hb)
            replace Her3 := Lib.hid (Her3.out.below hb)
            clear qy0 qy1 qy2 qy3
            clear hb
            have qy0 := Hy.out.c0
            have qy1 := Hy.out.c1
            have qy2 := Hy.out.c2
            have qy3 := Hy.out.c3
            go_wp2_with fail
            refine (HAT2.out _ HS8.out.et HK.out).mono ?_
            rintro e w9 ⟨er4, rfl, e9, hb⟩
            have Her4 := Lib.hid e9
            clear e9
            have HS9 := Lib.hid (HS8.out.next hb)
            replace HK := Lib.hid (HK.out.below hb)
            replace Her1 := Lib.hid (Her1.out.below hb)
            replace Hy := Lib.hid (Hy.out.below hb)
            replace Her2 := Lib.hid (Her2.out.below hb)
            replace Her3 := Lib.hid (Her3.out.below hb)
            clear qy0 qy1 qy2 qy3
            clear hb
            have qy0 := Hy.out.c0
            have qy1 := Hy.out.c1
            have qy2 := Hy.out.c2
            have qy3 := Hy.out.c3
            obtain ⟨Vz, Uz, Mz, hVz, hMz, hUz, hv, hu, hb⟩ := fd_box w9 y2
            have v0 := hv.c0
            have v1 := hv.c1
            have v2 := hv.c2
            have v3 := hv.c3
            have vf0 := hv.f0
            have vf1 := hv.f1
            have vf2 := hv.f2
            have vf3 := hv.f3
            have Hz := Lib.hid hu
            clear hv hu
            have HS10 := Lib.hid (HS9.out.next hb)
            replace HK := Lib.hid (HK.out.below hb)
            replace Her1 := Lib.hid (Her1.out.below hb)
            replace Hy := Lib.hid (Hy.out.below hb)
            replace Her2 := Lib.hid (Her2.out.below hb)
            replace Her3 := Lib.hid (Her3.out.below hb)
            replace Her4 := Lib.hid (Her4.out.below hb)
            clear qy0 qy1 qy2 qy3
            clear hb
            have qy0 := Hy.out.c0
            have qy1 := Hy.out.c1
            have qy2 := Hy.out.c2
            have qy3 := Hy.out.c3
            have k4 : (y.1.2.1 != 1) = false := by rw [bne, k1]; rfl
            go_wp2_with fail
            refine (HDP.out _).mono ?_
            rintro e w11 ⟨rfl, hb⟩
            replace Hz := Lib.hid (Hz.out.below hb)
            have HS11 := Lib.hid (HS10.out.next hb)
            replace HK := Lib.hid (HK.out.below hb)
            replace Her1 := Lib.hid (Her1.out.below hb)
            replace Hy := Lib.hid (Hy.out.below hb)
            replace Her2 := Lib.hid (Her2.out.below hb)
            replace Her3 := Lib.hid (Her3.out.below hb)
            replace Her4 := Lib.hid (Her4.out.below hb)
            clear qy0 qy1 qy2 qy3
            clear hb
            have qy0 := Hy.out.c0
            have qy1 := Hy.out.c1
            have qy2 := Hy.out.c2
            have qy3 := Hy.out.c3
            clear v0 v1 v2 v3 vf0 vf1 vf2 vf3 hVz hMz hUz
            have qz0 := Hz.out.c0
            have qz1 := Hz.out.c1
            have qz2 := Hz.out.c2
            have qz3 := Hz.out.c3
            go_wp2_with fail
            refine (code_er _ _ _ Her4.out HS11.out.et).mono ?_
            rintro e w12 ⟨rfl, hb⟩
            have HS12 := Lib.hid (HS11.out.next hb)
            replace HK := Lib.hid (HK.out.below hb)
            replace Her1 := Lib.hid (Her1.out.below hb)
            replace Hy := Lib.hid (Hy.out.below hb)
            replace Her2 := Lib.hid (Her2.out.below hb)
            replace Her3 := Lib.hid (Her3.out.below hb)
            replace Her4 := Lib.hid (Her4.out.below hb)
            replace Hz := Lib.hid (Hz.out.below hb)
            clear qy0 qy1 qy2 qy3
            clear qz0 qz1 qz2 qz3
            clear hb
            have qy0 := Hy.out.c0
            have qy1 := Hy.out.c1
            have qy2 := Hy.out.c2
            have qy3 := Hy.out.c3
            have qz0 := Hz.out.c0
            have qz1 := Hz.out.c1
            have qz2 := Hz.out.c2
            have qz3 := Hz.out.c3
            go_wp2
            go_ret
            exact ⟨by first | rfl | simp, HS12.out.below⟩
      · have g1 : (n1 == 0) = false := beq_eq_false_iff_ne.2 h1
        have g2 : (n1 != 0) = true := by rw [bne, g1]; rfl
        clear h1 hn1 hy
        go_enter Tryd.func6, Tryd.ntmps6
        go_wp2_with fail
        refine (awake12 L _ HS0.out.et).mono ?_
        rintro e w1 ⟨rfl, hb⟩
        have HS1 := Lib.hid (HS0.out.next hb)
        replace HK := Lib.hid (HK.out.below hb)
        clear hb
        go_wp2_with fail
        refine (few10 S a cap _ HK.out).mono ?_
        rintro e w9 ⟨rfl, rfl⟩
        rw [hF1]
        go_wp2_with fail
        refine (HAT.out _ HS1.out.et HK.out).mono ?_
        rintro e w2 ⟨er1, rfl, e9, hb⟩
        have Her1 := Lib.hid e9
        clear e9
        have HS2 := Lib.hid (HS1.out.next hb)
        replace HK := Lib.hid (HK.out.below hb)
        clear hb
        obtain ⟨Vy, Uy, My, hVy, hMy, hUy, hv, hu, hb⟩ := fd_box w2 y
        have v0 := hv.c0
        have v1 := hv.c1
        have v2 := hv.c2
        have v3 := hv.c3
        have vf0 := hv.f0
        have vf1 := hv.f1
        have vf2 := hv.f2
        have vf3 := hv.f3
        have Hy := Lib.hid hu
        clear hv hu
        have HS3 := Lib.hid (HS2.out.next hb)
        replace HK := Lib.hid (HK.out.below hb)
        replace Her1 := Lib.hid (Her1.out.below hb)
        clear hb
        go_wp2_with fail
        refine (code_er _ _ _ Her1.out HS3.out.et).mono ?_
        rintro e w4 ⟨rfl, hb⟩
        replace Hy := Lib.hid (Hy.out.below hb)
        have HS4 := Lib.hid (HS3.out.next hb)
        replace HK := Lib.hid (HK.out.below hb)
        replace Her1 := Lib.hid (Her1.out.below hb)
        clear hb
        clear v0 v1 v2 v3 vf0 vf1 vf2 vf3 hVy hMy hUy
        have qy0 := Hy.out.c0
        have qy1 := Hy.out.c1
        have qy2 := Hy.out.c2
        have qy3 := Hy.out.c3
        go_wp2
        go_ret
        exact ⟨by first | rfl | simp, HS4.out.below⟩
  · have hF1 : (if FewOK S then (1 : Int) else 0) = 0 := if_neg hf
    clear hf
    go_enter Tryd.func6, Tryd.ntmps6
    go_wp2_with fail
    refine (awake12 L _ HS0.out.et).mono ?_
    rintro e w1 ⟨rfl, hb⟩
    have HS1 := Lib.hid (HS0.out.next hb)
    replace HK := Lib.hid (HK.out.below hb)
    clear hb
    go_wp2_with fail
    refine (few10 S a cap _ HK.out).mono ?_
    rintro e w9 ⟨rfl, rfl⟩
    rw [hF1]
    go_wp2_with fail
    refine (awake12 L _ HS1.out.et).mono ?_
    rintro e w2 ⟨rfl, hb⟩
    have HS2 := Lib.hid (HS1.out.next hb)
    replace HK := Lib.hid (HK.out.below hb)
    clear hb
    go_wp2
    go_ret
    exact ⟨by first | rfl | simp, HS2.out.below⟩
end Go.Proofs.YthpobihpdomhoaaDoor
