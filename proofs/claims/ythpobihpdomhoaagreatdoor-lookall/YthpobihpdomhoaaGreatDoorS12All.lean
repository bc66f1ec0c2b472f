/-
  The law LookAll walked over Look12 and Stack12: for every stack it returns true and changes nothing that was there. Conditions: package look answers as Look12 says, fold.Stack as Stack12; the stack lies in memory; errorType holds error's type.
-/
import Derived.Test.YthpobihpdomhoaaGreatDoorS12Awake
import Derived.Test.YthpobihpdomhoaaGreatDoorS12Few
import Derived.Test.YthpobihpdomhoaaGreatDoorS12FdEq
import Derived.Test.YthpobihpdomhoaaGreatDoorS12RefR
import Derived.IntWalk
namespace Go.Proofs.YthpobihpdomhoaaGreatDoor
open Go.RowKit

/-- What fold.Stack answers of a stack that can be looked at. -/
def Stack12 : Prop := ∀ S a cap w, Stk w a cap S → (∀ l ∈ S, Sm l) → LkOK S → Calls Tryz.prog 7 #[.slice a S.length cap] w fun e w' => ∃ a' cap', e = .returned (.slice a' (stk S).length cap') ∧ Ents w' a' cap' (stk S) ∧ Below w.heap.size w w'
attribute [local go_sem ↓] old_ldi old_lds old_lde3 old_eqen old_neen
attribute [local go_sem] oldC_forall isC1_ptr isS1_ptr c1V_ptr isE3_ptr e3V_ptr isEv_agg evEq_agg eta_ent
set_option maxRecDepth 10000 in
set_option maxHeartbeats 8000000 in
theorem lawAll12 (L : Look12) (LF : Stack12) (S : List (List Ent))  (a : Option Addr) (cap : Nat) (W : World) (hg : EtLaid W) (hk : Stk W a cap S) : Calls Tryz.prog 3 #[.slice a S.length cap] W fun e w' => e = .returned (.bool true) ∧ Below W.heap.size W w' := by
  have HS0 := Lib.hid (st_self hg)
  have HK := Lib.hid hk
  clear hg hk
  by_cases hf : FewOK S
  · have hF1 : (if FewOK S then (1 : Int) else 0) = 1 := if_pos hf
    have HFW := Lib.hid hf
    have HSS := Lib.hid (few_sm12 hf)
    clear hf
    have HRR := Lib.hid (fun W h => refRight12 S a cap W h HSS.out.1 HSS.out.2)
    by_cases hok : LkOK S
    · rw [decide_eq_true (show S.length ≤ 9 ∧ ∀ l ∈ S, RightL l from hok)] at HRR
      have HOK := Lib.hid hok
      clear hok
      have HTL := Lib.hid (show (stk S).length ≤ 576 by have := stk_len HOK.out.2; have := HOK.out.1; omega)
      have HMEM := Lib.hid (fun e (he : e ∈ stk S) => at_mem HOK.out.2 he)
      have HTR := Lib.hid (tr_stk HOK.out.2)
      go_enter Tryz.func3, Tryz.ntmps3
      go_wp2_with fail
      refine (awake12 L _ HS0.out.et).mono ?_
      rintro e w1 ⟨rfl, hb⟩
      have HS1 := Lib.hid (HS0.out.next hb)
      replace HK := Lib.hid (HK.out.below hb)
      clear hb
      go_wp2_with fail
      refine (few10 S a cap _ HK.out).mono ?_
      rintro e w9 ⟨rfl, rfl⟩
      rw [hF1]
      go_wp2_with fail
      refine (HRR.out _ HK.out).mono ?_
      rintro e w2 ⟨rfl, hb⟩
      have HS2 := Lib.hid (HS1.out.next hb)
      replace HK := Lib.hid (HK.out.below hb)
      clear hb
      go_wp2_with fail
      refine (LF S a cap _ HK.out HSS.out.2 HOK.out).mono ?_
      rintro e w3 ⟨aT, cT, rfl, hT, hb⟩
      have HET := Lib.hid hT
      clear hT
      have HS3 := Lib.hid (HS2.out.next hb)
      replace HK := Lib.hid (HK.out.below hb)
      clear hb
      obtain ⟨T, hT⟩ : ∃ T, stk S = T := ⟨_, rfl⟩
      rw [hT] at HET HTL HMEM HTR ⊢
      clear hT
      go_wp2
      go_loopg [4] T.length (fun g i wx => ∃ k : Nat, i = .int .i64 (k : Int) ∧ k + g = T.length ∧ Hid (St W wx) ∧ Hid (Below w3.heap.size w3 wx))
      case atStart => exact ⟨0, rfl, by omega, HS3.out, Below.refl _ _⟩
      case round =>
        obtain ⟨k, rfl, hk, HSr, HBr⟩ := hrel
        have hw : IntKind.i64.wrap ((k : Int) + 1) = (k : Int) + 1 := IntWalk.i64_in _ (by have := HTL.out; omega)
        by_cases hlt : k < T.length
        · have hlt' : (k : Int) < (T.length : Int) := by omega
          have HEr := Lib.hid (RowN.below HET.out HBr.out)
          have HKr := Lib.hid (HK.out.below HBr.out)
          obtain ⟨b, off, rfl, _, hc⟩ := Ents.at HEr.out (Below.refl _ _) hlt
          have HX := Lib.hid (HMEM.out _ (List.getElem_mem hlt))
          have HXP := Lib.hid (rE_isP (HTR.out.1.1 _ (List.getElem_mem hlt)))
          obtain ⟨x, hx⟩ : ∃ x, T[k] = x := ⟨_, rfl⟩
          have HXK := Lib.hid hx
          rw [hx] at hc HX HXP
          clear hx
          have c0 := hc.c0
          obtain ⟨y, hy⟩ : ∃ y, (lkV S (pl x)).2 = y := ⟨_, rfl⟩
          have HYX := Lib.hid (show y.1 = x by rw [← hy, lkV_ok HOK.out]; exact HX.out.2)
          have HA : Hid (Calls Tryz.prog 8 #[.slice a S.length cap, .string x.1] wr fun e w' => ∃ er, e = .returned (.tuple #[fdnV y, er]) ∧ Er w' 0 er ∧ Below wr.heap.size wr w') := by
            have := L S a cap x.1 wr HSr.out.et HKr.out HSS.out.1 HSS.out.2 (by
              have h54 := isP_len HXP.out.1
              rw [← Lib.size_eq] at h54
              omega)
            rw [show (lkV S x.1.data.toList).2 = y from hy, show (lkV S x.1.data.toList).1 = 0 by rw [lkV_ok HOK.out]; exact HX.out.1] at this
            exact this
          clear hc hy
          go_wp2_with fail
          refine (HA.out).mono ?_
          rintro e wa ⟨er, rfl, her, hb⟩
          have HSa := Lib.hid (HSr.out.next hb)
          have HEa := Lib.hid (RowN.below HEr.out hb)
          have HBa := Lib.hid (HBr.out.trans (hb.mono HBr.out.size))
          have HER := Lib.hid her
          clear hb her c0
          obtain ⟨Vf, wb, Mf, hVf, hMf, hUf, hv, hu, hb⟩ := fd_box wa y
          have v0 := hv.c0
          have v1 := hv.c1
          have v2 := hv.c2
          have v3 := hv.c3
          have vf0 := hv.f0
          have vf1 := hv.f1
          have vf2 := hv.f2
          have vf3 := hv.f3
          have Hf := Lib.hid hu
          have HSb := Lib.hid (HSa.out.next hb)
          have HEb := Lib.hid (RowN.below HEa.out hb)
          have HBb := Lib.hid (HBa.out.trans (hb.mono HBa.out.size))
          replace HER := Lib.hid (HER.out.below hb)
          clear hv hu hb
          go_wp2_with fail
          clear v0 v1 v2 v3 vf0 vf1 vf2 vf3 hVf hMf hUf
          obtain ⟨b', off', e9, _, hc⟩ := Ents.at HEb.out (Below.refl _ _) hlt
          cases e9
          obtain ⟨x', hx'⟩ : ∃ x', T[k] = x' := ⟨_, rfl⟩
          rw [hx'] at hc
          obtain ⟨y1, y2⟩ := y
          have hyx : y1 = x' := HYX.out.trans (HXK.out.symm.trans hx')
          subst hyx
          have c0 := hc.c0
          have c1 := hc.c1
          have c2 := hc.c2
          have q0 := Hf.out.c0
          have q1 := Hf.out.c1
          have q2 := Hf.out.c2
          have H1 : Hid (∀ w', OldC wb w' → Calls Tryz.prog 9 #[er] w' fun r w'' => r = .returned (.int .i64 0) ∧ OldC wb w'') := fun w' hw' => by
            refine (code_er _ _ _ (HER.out.below hw') (HSb.out.next hw').et).mono ?_
            rintro r w'' ⟨rfl, hb⟩
            exact ⟨rfl, hw'.then hb⟩
          clear hc hx'
          refine wp_region_old (by kernel_rfl) (by kernel_rfl) ?_
          repeat (go_big_quiet_step ((first | (intro hw; with_reducible exact H1.out _ hw))))
          refine wpQuiet_nil ?_
          intro wd hw9
          have HSd := Lib.hid (HSb.out.next hw9)
          have HBd := Lib.hid (HBb.out.trans (Below.mono hw9 HBb.out.size))
          clear hw9
          go_wp2
          go_roundg (gk - 1)
          case measure => omega
          case rel => exact ⟨k + 1, by simp, by omega, HSd.out, HBd.out⟩
        · have hlt' : ¬ (k : Int) < (T.length : Int) := by omega
          go_wp2
          go_ret
          exact ⟨by first | rfl | simp, HSr.out.below⟩
    · rw [decide_eq_false (show ¬ (S.length ≤ 9 ∧ ∀ l ∈ S, RightL l) from hok)] at HRR
      clear hok
      go_enter Tryz.func3, Tryz.ntmps3
      go_wp2_with fail
      refine (awake12 L _ HS0.out.et).mono ?_
      rintro e w1 ⟨rfl, hb⟩
      have HS1 := Lib.hid (HS0.out.next hb)
      replace HK := Lib.hid (HK.out.below hb)
      clear hb
      go_wp2_with fail
      refine (few10 S a cap _ HK.out).mono ?_
      rintro e w9 ⟨rfl, rfl⟩
      rw [hF1]
      go_wp2_with fail
      refine (HRR.out _ HK.out).mono ?_
      rintro e w2 ⟨rfl, hb⟩
      have HS2 := Lib.hid (HS1.out.next hb)
      replace HK := Lib.hid (HK.out.below hb)
      clear hb
      go_wp2_with fail
      refine (awake12 L _ HS2.out.et).mono ?_
      rintro e w3 ⟨rfl, hb⟩
      have HS3 := Lib.hid (HS2.out.next hb)
      replace HK := Lib.hid (HK.out.below hb)
      clear hb
      go_wp2
      go_ret
      exact ⟨by first | rfl | simp, HS3.out.below⟩
  · have hF1 : (if FewOK S then (1 : Int) else 0) = 0 := if_neg hf
    clear hf
    go_enter Tryz.func3, Tryz.ntmps3
    go_wp2_with fail
    refine (awake12 L _ HS0.out.et).mono ?_
    rintro e w1 ⟨rfl, hb⟩
    have HS1 := Lib.hid (HS0.out.next hb)
    replace HK := Lib.hid (HK.out.below hb)
    clear hb
    go_wp2_with fail
    refine (few10 S a cap _ HK.out).mono ?_
    rintro e w9 ⟨rfl, rfl⟩
    rw [hF1]
    go_wp2_with fail
    refine (awake12 L _ HS1.out.et).mono ?_
    rintro e w2 ⟨rfl, hb⟩
    have HS2 := Lib.hid (HS1.out.next hb)
    replace HK := Lib.hid (HK.out.below hb)
    clear hb
    go_wp2
    go_ret
    exact ⟨by first | rfl | simp, HS2.out.below⟩
end Go.Proofs.YthpobihpdomhoaaGreatDoor
