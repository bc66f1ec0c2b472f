/-
  The law LookFloors walked over Look12 and Dir12: for every stack and text it returns true and changes nothing that was there. Conditions: package look answers as Look12 and Dir12 say; the stack lies in memory; errorType holds error's type.
-/
import Derived.Test.YthpobihpdomhoaaDoorS12Awake
import Derived.Test.YthpobihpdomhoaaDoorS12Few
import Derived.Test.YthpobihpdomhoaaDoorS12FdEq
import Derived.Test.YthpobihpdomhoaaDoorS12Ref2
import Derived.Test.YthpobihpdomhoaaDoorS9Find
namespace Go.Proofs.YthpobihpdomhoaaDoor
open Go.RowKit

theorem stk_lay12 {w : World} {a : Option Addr} {cap : Nat} {S : List (List Ent)} (h : Stk w a cap S) {k : Nat} (hk : k < S.length) :
    ∃ b off a' cap', a = some ⟨b, off, none⟩ ∧ ∀ W, Below w.heap.size w W → W.cell? ⟨b, off + k, none⟩ = some (.slice a' (layN S k).length cap') ∧ Ents W a' cap' (layN S k) := by
  have e : layN S k = S[k] := by unfold layN; rw [List.getD_eq_getElem?_getD, List.getElem?_eq_getElem hk]; rfl
  rw [e]
  exact stk_at12 h hk
/-- A variable of a call's own, an entry stored in it. -/
theorem en_box12 (w : World) (x : Ent) : ∃ V U M, w.alloc (.cells #[.string ⟨#[]⟩, .int .i64 0, .string ⟨#[]⟩] 26) = V ∧ w.heap.size = M ∧ enSet V M x.1 x.2.1 x.2.2 = U ∧ EnAt V M ⟨#[]⟩ 0 ⟨#[]⟩ ∧ EnAt U M x.1 x.2.1 x.2.2 ∧ Below w.heap.size w U := by
  refine ⟨_, _, _, rfl, rfl, rfl, enAt_new _ _ _ _, (enAt_new _ _ _ _).set _ _ _, below_en3 ((Below.refl _ _).alloc (Nat.le_refl _) _) (Nat.le_refl _) _ _ _⟩
attribute [local go_sem ↓] eqw_fd new_fd eqw_en new_en
attribute [local go_sem] isFv_agg isFv_zero fvEq_agg fvEq_zero eta_fd isEv_agg evEq_agg eta_ent
set_option maxRecDepth 10000 in
set_option maxHeartbeats 8000000 in
theorem lawFloors12 (L : Look12) (LD : Dir12) (S : List (List Ent)) (p : ByteArray) (a : Option Addr) (cap : Nat) (W : World) (hg : EtLaid W) (hk : Stk W a cap S) : Calls Tryd.prog 4 #[.slice a S.length cap, .string p] W fun e w' => e = .returned (.bool true) ∧ Below W.heap.size W w' := by
  have HS0 := Lib.hid (st_self hg)
  have HK := Lib.hid hk
  clear hg hk
  by_cases hf : FewOK S
  · have hF1 : (if FewOK S then (1 : Int) else 0) = 1 := if_pos hf
    have HFW := Lib.hid hf
    have HSS := Lib.hid (few_sm12 hf)
    clear hf
    by_cases hp : (100 : Int) < (p.size : Int)
    · go_enter Tryd.func4, Tryd.ntmps4
      go_wp2_with fail
      refine (awake12 L _ HS0.out.et).mono ?_
      rintro e w1 ⟨rfl, hb⟩
      have HS1 := Lib.hid (HS0.out.next hb)
      replace HK := Lib.hid (HK.out.below hb)
      clear hb
      go_wp2_with fail
      refine (few10 S a cap _ HK.out).mono ?_
      rintro e w9 ⟨rfl, rfl⟩
      rw [hF1]
      go_wp2_with fail
      refine (awake12 L _ HS1.out.et).mono ?_
      rintro e w2 ⟨rfl, hb⟩
      have HS2 := Lib.hid (HS1.out.next hb)
      replace HK := Lib.hid (HK.out.below hb)
      clear hb
      go_wp2
      go_ret
      exact ⟨by first | rfl | simp, HS2.out.below⟩
    · have HP := Lib.hid (show p.size ≤ 100 by omega)
      have HRR := Lib.hid (fun W h => refRight12 S a cap W h HSS.out.1 HSS.out.2)
      by_cases hok : LkOK S
      · rw [decide_eq_true (show S.length ≤ 9 ∧ ∀ l ∈ S, RightL l from hok)] at HRR
        have HOK := Lib.hid hok
        obtain ⟨n1, hn1⟩ : ∃ n, (lkV S p.data.toList).1 = n := ⟨_, rfl⟩
        obtain ⟨y, hy⟩ : ∃ y, (lkV S p.data.toList).2 = y := ⟨_, rfl⟩
        have HAT : Hid (∀ w, EtLaid w → Stk w a cap S → Calls Tryd.prog 10 #[.slice a S.length cap, .string p] w fun e w' => ∃ er, e = .returned (.tuple #[fdnV y, er]) ∧ Er w' n1 er ∧ Below w.heap.size w w') := fun w h1 h2 => by
          have := L S a cap p w h1 h2 HSS.out.1 HSS.out.2 (by have := HP.out; omega)
          rw [hn1, hy] at this
          exact this
        have HDR : Hid (drV S p.data.toList = if n1 ≠ 0 then (n1, 0) else if y.1.2.1 ≠ 2 then (6, 0) else (0, y.2)) := by
          unfold Hid drV
          rw [hn1, hy]
        have HDI : Hid (∀ v, drV S p.data.toList = v → ∀ w, EtLaid w → Stk w a cap S → Calls Tryd.prog 15 #[.slice a S.length cap, .string p] w fun e w' => ∃ er, e = .returned (.tuple #[.int .i64 (v.2 : Nat), er]) ∧ Er w' v.1 er ∧ Below w.heap.size w w') := fun v hv w h1 h2 => by
          have := LD S a cap p w h1 h2 HSS.out.1 HSS.out.2 (by have := HP.out; omega)
          rw [hv] at this
          exact this
        rw [lkV_ok hok] at hn1 hy
        clear hok
        by_cases h0 : n1 = 0
        · subst h0
          have HPP := Lib.hid ((lkV_zero (S := S) (p := p.data.toList) (by rw [lkV_ok HOK.out]; exact hn1)).2)
          by_cases h1 : y.1.2.1 = 1
          · obtain ⟨hf1, hf2⟩ := floor_file HOK.out.2 HPP.out hn1 (by rw [hy]; exact h1)
            rw [hy] at hf1 hf2
            have HDV := Lib.hid (show drV S p.data.toList = (6, 0) by rw [HDR.out, if_neg (by decide), if_pos (by rw [h1]; decide)])
            have g1 : (y.1.2.1 == 1) = true := beq_iff_eq.2 h1
            have HFL := Lib.hid hf1
            have hfl : (y.2 : Int) < (S.length : Int) := by omega
            have hlm := layN_mem hf1
            have HRL := Lib.hid (HOK.out.2 _ hlm)
            have HLS := Lib.hid (HSS.out.2 _ hlm)
            obtain ⟨l, hl⟩ : ∃ l, layN S y.2 = l := ⟨_, rfl⟩
            rw [hl] at hf2 HRL HLS
            have HLN := Lib.hid hl
            have HFD := Lib.hid (show fdV l p.data.toList = (y.1, true) by unfold fdV; rw [if_pos HRL.out, hf2])
            have g2 : decide (y.1 = y.1) = true := decide_eq_true rfl
            clear h1 hf1 hf2 hlm hl hn1 hy
            go_enter Tryd.func4, Tryd.ntmps4
            go_wp2_with fail
            refine (awake12 L _ HS0.out.et).mono ?_
            rintro e w1 ⟨rfl, hb⟩
            have HS1 := Lib.hid (HS0.out.next hb)
            replace HK := Lib.hid (HK.out.below hb)
            clear hb
            go_wp2_with fail
            refine (few10 S a cap _ HK.out).mono ?_
            rintro e w9 ⟨rfl, rfl⟩
            rw [hF1]
            go_wp2_with fail
            refine (HRR.out _ HK.out).mono ?_
            rintro e w2 ⟨rfl, hb⟩
            have HS2 := Lib.hid (HS1.out.next hb)
            replace HK := Lib.hid (HK.out.below hb)
            clear hb
            go_wp2_with fail
            refine (HAT.out _ HS2.out.et HK.out).mono ?_
            rintro e w3 ⟨er1, rfl, e9, hb⟩
            have Her1 := Lib.hid e9
            clear e9
            have HS3 := Lib.hid (HS2.out.next hb)
            replace HK := Lib.hid (HK.out.below hb)
            clear hb
            obtain ⟨Vy, Uy, My, hVy, hMy, hUy, hv, hu, hb⟩ := fd_box w3 y
            have v0 := hv.c0
            have v1 := hv.c1
            have v2 := hv.c2
            have v3 := hv.c3
            have vf0 := hv.f0
            have vf1 := hv.f1
            have vf2 := hv.f2
            have vf3 := hv.f3
            have Hy := Lib.hid hu
            clear hv hu
            have HS4 := Lib.hid (HS3.out.next hb)
            replace HK := Lib.hid (HK.out.below hb)
            replace Her1 := Lib.hid (Her1.out.below hb)
            clear hb
            go_wp2_with fail
            refine (HDI.out (6, 0) HDV.out _ HS4.out.et HK.out).mono ?_
            rintro e w5 ⟨er2, rfl, e9, hb⟩
            have Her2 := Lib.hid e9
            clear e9
            replace Hy := Lib.hid (Hy.out.below hb)
            have HS5 := Lib.hid (HS4.out.next hb)
            replace HK := Lib.hid (HK.out.below hb)
            replace Her1 := Lib.hid (Her1.out.below hb)
            clear hb
            clear v0 v1 v2 v3 vf0 vf1 vf2 vf3 hVy hMy hUy
            have qy0 := Hy.out.c0
            have qy1 := Hy.out.c1
            have qy2 := Hy.out.c2
            have qy3 := Hy.out.c3
            go_wp2_with fail
            refine (code_er _ _ _ Her1.out HS5.out.et).mono ?_
            rintro e w6 ⟨rfl, hb⟩
            have HS6 := Lib.hid (HS5.out.next hb)
            replace HK := Lib.hid (HK.out.below hb)
            replace Her1 := Lib.hid (Her1.out.below hb)
            replace Her2 := Lib.hid (Her2.out.below hb)
            replace Hy := Lib.hid (Hy.out.below hb)
            clear qy0 qy1 qy2 qy3
            clear hb
            have qy0 := Hy.out.c0
            have qy1 := Hy.out.c1
            have qy2 := Hy.out.c2
            have qy3 := Hy.out.c3
            obtain ⟨b, off, aL, cL, rfl, hcL⟩ := stk_lay12 HK.out HFL.out
            have hcell := (hcL _ (Below.refl _ _)).1
            have HLE := Lib.hid (hcL _ (Below.refl _ _)).2
            rw [HLN.out] at hcell HLE
            clear hcL
            go_wp2_with fail
            refine (find9 l aL cL p _ HLE.out HLS.out).mono ?_
            rw [HFD.out]
            rintro e w7 ⟨rfl, hb⟩
            clear hcell
            have HS7 := Lib.hid (HS6.out.next hb)
            replace HK := Lib.hid (HK.out.below hb)
            replace Her1 := Lib.hid (Her1.out.below hb)
            replace Her2 := Lib.hid (Her2.out.below hb)
            replace Hy := Lib.hid (Hy.out.below hb)
            clear qy0 qy1 qy2 qy3
            clear hb
            have qy0 := Hy.out.c0
            have qy1 := Hy.out.c1
            have qy2 := Hy.out.c2
            have qy3 := Hy.out.c3
            obtain ⟨Vx, Ux, Mx, hVx, hMx, hUx, hv, hu, hb⟩ := en_box12 w7 y.1
            have v0 := hv.c0
            have v1 := hv.c1
            have v2 := hv.c2
            have vf0 := hv.f0
            have vf1 := hv.f1
            have vf2 := hv.f2
            have HX := Lib.hid hu
            clear hv hu
            have HS8 := Lib.hid (HS7.out.next hb)
            replace HK := Lib.hid (HK.out.below hb)
            replace Her1 := Lib.hid (Her1.out.below hb)
            replace Her2 := Lib.hid (Her2.out.below hb)
            replace Hy := Lib.hid (Hy.out.below hb)
            clear qy0 qy1 qy2 qy3
            clear hb
            have qy0 := Hy.out.c0
            have qy1 := Hy.out.c1
            have qy2 := Hy.out.c2
            have qy3 := Hy.out.c3
            go_wp2_with fail
            refine (code_er _ _ _ Her2.out HS8.out.et).mono ?_
            rintro e w9 ⟨rfl, hb⟩
            replace HX := Lib.hid (HX.out.below hb)
            have HS9 := Lib.hid (HS8.out.next hb)
            replace HK := Lib.hid (HK.out.below hb)
            replace Her1 := Lib.hid (Her1.out.below hb)
            replace Her2 := Lib.hid (Her2.out.below hb)
            replace Hy := Lib.hid (Hy.out.below hb)
            clear qy0 qy1 qy2 qy3
            clear hb
            have qy0 := Hy.out.c0
            have qy1 := Hy.out.c1
            have qy2 := Hy.out.c2
            have qy3 := Hy.out.c3
            clear v0 v1 v2 vf0 vf1 vf2 hVx hMx hUx
            have x0 := HX.out.c0
            have x1 := HX.out.c1
            have x2 := HX.out.c2
            go_wp2
            go_ret
            exact ⟨by first | rfl | simp, HS9.out.below⟩
          · have h2 : y.1.2.1 = 2 := by
              obtain ⟨_, _, _, h4⟩ := look_all HOK.out.2 _ HPP.out
              obtain ⟨_, h5⟩ := h4 hn1
              rw [hy] at h5
              rcases h5 with h5 | h5
              · exact h5.1
              · exact absurd h5.1 h1
            have HDV := Lib.hid (show drV S p.data.toList = (0, y.2) by rw [HDR.out, if_neg (by decide), if_neg (not_not_intro h2)])
            have g1 : (y.1.2.1 == 1) = false := beq_eq_false_iff_ne.2 h1
            have g2 : ((y.2 : Int) == (y.2 : Int)) = true := beq_iff_eq.2 rfl
            have HRF := Lib.hid (fun W h => refFloor12 S HOK.out.1 HOK.out.2 _ HPP.out hn1 (by rw [hy]; exact h2) a cap p W rfl h)
            rw [hy] at HRF
            clear h1 h2 hn1 hy
            go_enter Tryd.func4, Tryd.ntmps4
            go_wp2_with fail
            refine (awake12 L _ HS0.out.et).mono ?_
            rintro e w1 ⟨rfl, hb⟩
            have HS1 := Lib.hid (HS0.out.next hb)
            replace HK := Lib.hid (HK.out.below hb)
            clear hb
            go_wp2_with fail
            refine (few10 S a cap _ HK.out).mono ?_
            rintro e w9 ⟨rfl, rfl⟩
            rw [hF1]
            go_wp2_with fail
            refine (HRR.out _ HK.out).mono ?_
            rintro e w2 ⟨rfl, hb⟩
            have HS2 := Lib.hid (HS1.out.next hb)
            replace HK := Lib.hid (HK.out.below hb)
            clear hb
            go_wp2_with fail
            refine (HAT.out _ HS2.out.et HK.out).mono ?_
            rintro e w3 ⟨er1, rfl, e9, hb⟩
            have Her1 := Lib.hid e9
            clear e9
            have HS3 := Lib.hid (HS2.out.next hb)
            replace HK := Lib.hid (HK.out.below hb)
            clear hb
            obtain ⟨Vy, Uy, My, hVy, hMy, hUy, hv, hu, hb⟩ := fd_box w3 y
            have v0 := hv.c0
            have v1 := hv.c1
            have v2 := hv.c2
            have v3 := hv.c3
            have vf0 := hv.f0
            have vf1 := hv.f1
            have vf2 := hv.f2
            have vf3 := hv.f3
            have Hy := Lib.hid hu
            clear hv hu
            have HS4 := Lib.hid (HS3.out.next hb)
            replace HK := Lib.hid (HK.out.below hb)
            replace Her1 := Lib.hid (Her1.out.below hb)
            clear hb
            go_wp2_with fail
            refine (HDI.out (0, y.2) HDV.out _ HS4.out.et HK.out).mono ?_
            rintro e w5 ⟨er2, rfl, e9, hb⟩
            have Her2 := Lib.hid e9
            clear e9
            replace Hy := Lib.hid (Hy.out.below hb)
            have HS5 := Lib.hid (HS4.out.next hb)
            replace HK := Lib.hid (HK.out.below hb)
            replace Her1 := Lib.hid (Her1.out.below hb)
            clear hb
            clear v0 v1 v2 v3 vf0 vf1 vf2 vf3 hVy hMy hUy
            have qy0 := Hy.out.c0
            have qy1 := Hy.out.c1
            have qy2 := Hy.out.c2
            have qy3 := Hy.out.c3
            go_wp2_with fail
            refine (code_er _ _ _ Her1.out HS5.out.et).mono ?_
            rintro e w6 ⟨rfl, hb⟩
            have HS6 := Lib.hid (HS5.out.next hb)
            replace HK := Lib.hid (HK.out.below hb)
            replace Her1 := Lib.hid (Her1.out.below hb)
            replace Her2 := Lib.hid (Her2.out.below hb)
            replace Hy := Lib.hid (Hy.out.below hb)
            clear qy0 qy1 qy2 qy3
            clear hb
            have qy0 := Hy.out.c0
            have qy1 := Hy.out.c1
            have qy2 := Hy.out.c2
            have qy3 := Hy.out.c3
            go_wp2_with fail
            refine (code_er _ _ _ Her2.out HS6.out.et).mono ?_
            rintro e w7 ⟨rfl, hb⟩
            have HS7 := Lib.hid (HS6.out.next hb)
            replace HK := Lib.hid (HK.out.below hb)
            replace Her1 := Lib.hid (Her1.out.below hb)
            replace Her2 := Lib.hid (Her2.out.below hb)
            replace Hy := Lib.hid (Hy.out.below hb)
            clear qy0 qy1 qy2 qy3
            clear hb
            have qy0 := Hy.out.c0
            have qy1 := Hy.out.c1
            have qy2 := Hy.out.c2
            have qy3 := Hy.out.c3
            go_wp2_with fail
            refine (HRF.out _ HK.out).mono ?_
            rintro e w8 ⟨rfl, hb⟩
            have HS8 := Lib.hid (HS7.out.next hb)
            replace HK := Lib.hid (HK.out.below hb)
            replace Her1 := Lib.hid (Her1.out.below hb)
            replace Her2 := Lib.hid (Her2.out.below hb)
            replace Hy := Lib.hid (Hy.out.below hb)
            clear qy0 qy1 qy2 qy3
            clear hb
            have qy0 := Hy.out.c0
            have qy1 := Hy.out.c1
            have qy2 := Hy.out.c2
            have qy3 := Hy.out.c3
            go_wp2
            go_ret
            exact ⟨by first | rfl | simp, HS8.out.below⟩
        · have HDV := Lib.hid (show drV S p.data.toList = (n1, 0) by rw [HDR.out, if_pos h0])
          have g1 : (n1 == 0) = false := beq_eq_false_iff_ne.2 h0
          have g2 : (n1 != 0) = true := by rw [bne, g1]; rfl
          have g3 : (n1 == n1) = true := beq_iff_eq.2 rfl
          clear h0 hn1 hy
          go_enter Tryd.func4, Tryd.ntmps4
          go_wp2_with fail
          refine (awake12 L _ HS0.out.et).mono ?_
          rintro e w1 ⟨rfl, hb⟩
          have HS1 := Lib.hid (HS0.out.next hb)
          replace HK := Lib.hid (HK.out.below hb)
          clear hb
          go_wp2_with fail
          refine (few10 S a cap _ HK.out).mono ?_
          rintro e w9 ⟨rfl, rfl⟩
          rw [hF1]
          go_wp2_with fail
          refine (HRR.out _ HK.out).mono ?_
          rintro e w2 ⟨rfl, hb⟩
          have HS2 := Lib.hid (HS1.out.next hb)
          replace HK := Lib.hid (HK.out.below hb)
          clear hb
          go_wp2_with fail
          refine (HAT.out _ HS2.out.et HK.out).mono ?_
          rintro e w3 ⟨er1, rfl, e9, hb⟩
          have Her1 := Lib.hid e9
          clear e9
          have HS3 := Lib.hid (HS2.out.next hb)
          replace HK := Lib.hid (HK.out.below hb)
          clear hb
          obtain ⟨Vy, Uy, My, hVy, hMy, hUy, hv, hu, hb⟩ := fd_box w3 y
          have v0 := hv.c0
          have v1 := hv.c1
          have v2 := hv.c2
          have v3 := hv.c3
          have vf0 := hv.f0
          have vf1 := hv.f1
          have vf2 := hv.f2
          have vf3 := hv.f3
          have Hy := Lib.hid hu
          clear hv hu
          have HS4 := Lib.hid (HS3.out.next hb)
          replace HK := Lib.hid (HK.out.below hb)
          replace Her1 := Lib.hid (Her1.out.below hb)
          clear hb
          go_wp2_with fail
          refine (HDI.out (n1, 0) HDV.out _ HS4.out.et HK.out).mono ?_
          rintro e w5 ⟨er2, rfl, e9, hb⟩
          have Her2 := Lib.hid e9
          clear e9
          replace Hy := Lib.hid (Hy.out.below hb)
          have HS5 := Lib.hid (HS4.out.next hb)
          replace HK := Lib.hid (HK.out.below hb)
          replace Her1 := Lib.hid (Her1.out.below hb)
          clear hb
          clear v0 v1 v2 v3 vf0 vf1 vf2 vf3 hVy hMy hUy
          have qy0 := Hy.out.c0
          have qy1 := Hy.out.c1
          have qy2 := Hy.out.c2
          have qy3 := Hy.out.c3
          go_wp2_with fail
          refine (code_er _ _ _ Her1.out HS5.out.et).mono ?_
          rintro e w6 ⟨rfl, hb⟩
          have HS6 := Lib.hid (HS5.out.next hb)
          replace HK := Lib.hid (HK.out.below hb)
          replace Her1 := Lib.hid (Her1.out.below hb)
          replace Her2 := Lib.hid (Her2.out.below hb)
          replace Hy := Lib.hid (Hy.out.below hb)
          clear qy0 qy1 qy2 qy3
          clear hb
          have qy0 := Hy.out.c0
          have qy1 := Hy.out.c1
          have qy2 := Hy.out.c2
          have qy3 := Hy.out.c3
          go_wp2_with fail
          refine (code_er _ _ _ Her2.out HS6.out.et).mono ?_
          rintro e w7 ⟨rfl, hb⟩
          have HS7 := Lib.hid (HS6.out.next hb)
          replace HK := Lib.hid (HK.out.below hb)
          replace Her1 := Lib.hid (Her1.out.below hb)
          replace Her2 := Lib.hid (Her2.out.below hb)
          replace Hy := Lib.hid (Hy.out.below hb)
          clear qy0 qy1 qy2 qy3
          clear hb
          have qy0 := Hy.out.c0
          have qy1 := Hy.out.c1
          have qy2 := Hy.out.c2
          have qy3 := Hy.out.c3
          go_wp2_with fail
          refine (code_er _ _ _ Her1.out HS7.out.et).mono ?_
          rintro e w8 ⟨rfl, hb⟩
          have HS8 := Lib.hid (HS7.out.next hb)
          replace HK := Lib.hid (HK.out.below hb)
          replace Her1 := Lib.hid (Her1.out.below hb)
          replace Her2 := Lib.hid (Her2.out.below hb)
          replace Hy := Lib.hid (Hy.out.below hb)
          clear qy0 qy1 qy2 qy3
          clear hb
          have qy0 := Hy.out.c0
          have qy1 := Hy.out.c1
          have qy2 := Hy.out.c2
          have qy3 := Hy.out.c3
          go_wp2
          go_ret
          exact ⟨by first | rfl | simp, HS8.out.below⟩
      · rw [decide_eq_false (show ¬ (S.length ≤ 9 ∧ ∀ l ∈ S, RightL l) from hok)] at HRR
        clear hok
        go_enter Tryd.func4, Tryd.ntmps4
        go_wp2_with fail
        refine (awake12 L _ HS0.out.et).mono ?_
        rintro e w1 ⟨rfl, hb⟩
        have HS1 := Lib.hid (HS0.out.next hb)
        replace HK := Lib.hid (HK.out.below hb)
        clear hb
        go_wp2_with fail
        refine (few10 S a cap _ HK.out).mono ?_
        rintro e w9 ⟨rfl, rfl⟩
        rw [hF1]
        go_wp2_with fail
        refine (HRR.out _ HK.out).mono ?_
        rintro e w2 ⟨rfl, hb⟩
        have HS2 := Lib.hid (HS1.out.next hb)
        replace HK := Lib.hid (HK.out.below hb)
        clear hb
        go_wp2_with fail
        refine (awake12 L _ HS2.out.et).mono ?_
        rintro e w3 ⟨rfl, hb⟩
        have HS3 := Lib.hid (HS2.out.next hb)
        replace HK := Lib.hid (HK.out.below hb)
        clear hb
        go_wp2
        go_ret
        exact ⟨by first | rfl | simp, HS3.out.below⟩
  · have hF1 : (if FewOK S then (1 : Int) else 0) = 0 := if_neg hf
    clear hf
    go_enter Tryd.func4, Tryd.ntmps4
    go_wp2_with fail
    refine (awake12 L _ HS0.out.et).mono ?_
    rintro e w1 ⟨rfl, hb⟩
    have HS1 := Lib.hid (HS0.out.next hb)
    replace HK := Lib.hid (HK.out.below hb)
    clear hb
    go_wp2_with fail
    refine (few10 S a cap _ HK.out).mono ?_
    rintro e w9 ⟨rfl, rfl⟩
    rw [hF1]
    go_wp2_with fail
    refine (awake12 L _ HS1.out.et).mono ?_
    rintro e w2 ⟨rfl, hb⟩
    have HS2 := Lib.hid (HS1.out.next hb)
    replace HK := Lib.hid (HK.out.below hb)
    clear hb
    go_wp2
    go_ret
    exact ⟨by first | rfl | simp, HS2.out.below⟩
end Go.Proofs.YthpobihpdomhoaaDoor
