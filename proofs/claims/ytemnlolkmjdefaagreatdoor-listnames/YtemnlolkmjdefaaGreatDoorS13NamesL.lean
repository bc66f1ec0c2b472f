/-
  The law ListNames walked over Names13 and Empty13: for every stack and text it returns true and changes nothing that was there. Conditions: package list answers as Names13 and Empty13 say; the stack lies in memory; errorType holds error's type.
-/
import Derived.Test.YtemnlolkmjdefaaGreatDoorS13Awake
import Derived.Test.YtemnlolkmjdefaaGreatDoorS12Few
import Derived.Test.YtemnlolkmjdefaaGreatDoorS13RefN
import Derived.Test.YtemnlolkmjdefaaGreatDoorPc
import Derived.BigQuiet
namespace Go.Proofs.YtemnlolkmjdefaaGreatDoor
open Go.RowKit

theorem nav_err {S : List (List Ent)} {p : List UInt8} (h : (naV S p).1 ≠ 0) : (naV S p).2 = [] := by
  unfold naV at h ⊢
  split
  · rfl
  · rename_i h9
    rw [if_neg h9] at h
    exact absurd rfl h
theorem nav_bad {S : List (List Ent)} (h : ¬ LkOK S) (p : List UInt8) : naV S p = (16, []) := by
  unfold naV drV
  rw [lkV_bad h]
  rfl
theorem nav_len {S : List (List Ent)} (h : LkOK S) (p : List UInt8) : (naV S p).2.length ≤ 576 := by
  unfold naV
  split
  · simp
  · have h1 := nmB_len (stk S) p
    have h2 := stk_len h.2
    have h3 := h.1
    show (nmB (stk S) p).length ≤ 576
    omega
set_option maxRecDepth 10000 in
set_option maxHeartbeats 8000000 in
theorem lawNames13 (LN : Names13) (LE : Empty13) (S : List (List Ent)) (p : ByteArray) (a : Option Addr) (cap : Nat) (W : World) (hg : EtLaid W) (hk : Stk W a cap S) : Calls Tryz.prog 3 #[.slice a S.length cap, .string p] W fun e w' => e = .returned (.bool true) ∧ Below W.heap.size W w' := by
  have HS0 := Lib.hid (st_self hg)
  have HK := Lib.hid hk
  clear hg hk
  by_cases hf : FewOK S
  · have hF1 : (if FewOK S then (1 : Int) else 0) = 1 := if_pos hf
    have HFW := Lib.hid hf
    have HSS := Lib.hid (few_sm12 hf)
    clear hf
    by_cases hp : (100 : Int) < (p.size : Int)
    · go_enter Tryz.func3, Tryz.ntmps3
      go_wp2_with fail
      refine (awake13 LN _ HS0.out.et).mono ?_
      rintro e w1 ⟨rfl, hb⟩
      have HS1 := Lib.hid (HS0.out.next hb)
      replace HK := Lib.hid (HK.out.below hb)
      clear hb
      go_wp2_with fail
      refine (few10 S a cap _ HK.out).mono ?_
      rintro e w9 ⟨rfl, rfl⟩
      rw [hF1]
      go_wp2_with fail
      refine (awake13 LN _ HS1.out.et).mono ?_
      rintro e w2 ⟨rfl, hb⟩
      have HS2 := Lib.hid (HS1.out.next hb)
      replace HK := Lib.hid (HK.out.below hb)
      clear hb
      go_wp2
      go_ret
      exact ⟨by first | rfl | simp, HS2.out.below⟩
    · have HP := Lib.hid (show p.size ≤ 100 by omega)
      obtain ⟨r, hr⟩ : ∃ r, naV S p.data.toList = r := ⟨_, rfl⟩
      have HNE := Lib.hid (show r.1 ≠ 0 → r.2 = [] by rw [← hr]; exact nav_err)
      have HNB := Lib.hid (show ¬ LkOK S → r = (16, []) by rw [← hr]; exact fun h => nav_bad h _)
      have HNM : Hid (∀ w, EtLaid w → Stk w a cap S → Calls Tryz.prog 11 #[.slice a S.length cap, .string p] w fun e w' => ∃ a' cap' er, e = .returned (.tuple #[.slice a' r.2.length cap', er]) ∧ Row w' a' cap' r.2 ∧ Er w' r.1 er ∧ Below w.heap.size w w') := fun w h1 h2 => by
        have := LN S a cap p w h1 h2 HSS.out.1 HSS.out.2 (by have := HP.out; omega)
        rw [hr] at this
        exact this
      have HEM : Hid (∀ w, EtLaid w → Stk w a cap S → Calls Tryz.prog 12 #[.slice a S.length cap, .string p] w fun e w' => ∃ er, e = .returned (.tuple #[.bool (decide (r.1 = 0 ∧ r.2 = [])), er]) ∧ Er w' r.1 er ∧ Below w.heap.size w w') := fun w h1 h2 => by
        have := LE S a cap p w h1 h2 HSS.out.1 HSS.out.2 (by have := HP.out; omega)
        rw [hr] at this
        exact this
      have HRR := Lib.hid (fun W h => refRight12 S a cap W h HSS.out.1 HSS.out.2)
      obtain ⟨n1, N⟩ := r
      by_cases hok : LkOK S
      · rw [decide_eq_true (show S.length ≤ 9 ∧ ∀ l ∈ S, RightL l from hok)] at HRR
        have HRN : Hid (∀ w, Stk w a cap S → Calls Tryz.prog 15 #[.slice a S.length cap, .string p] w fun e w' => ∃ a' cap', e = .returned (.tuple #[.slice a' N.length cap', .int .i64 n1]) ∧ Row w' a' cap' N ∧ Below w.heap.size w w') := fun w h => by
          have := refN13 S a cap p w h hok (by have := HP.out; omega)
          rw [hr] at this
          exact this
        have HNL := Lib.hid (show N.length ≤ 576 by
          have h1 := nav_len hok p.data.toList
          rw [hr] at h1
          exact h1)
        clear hr hok
        by_cases h0 : n1 = 0
        · subst h0
          by_cases hN : N = []
          · subst hN
            rw [decide_eq_true (show ((0 : Int), ([] : List ByteArray)).1 = 0 ∧ ((0 : Int), ([] : List ByteArray)).2 = [] from ⟨rfl, rfl⟩)] at HEM
            go_enter Tryz.func3, Tryz.ntmps3
            go_wp2_with fail
            refine (awake13 LN _ HS0.out.et).mono ?_
            rintro e w1 ⟨rfl, hb⟩
            have HS1 := Lib.hid (HS0.out.next hb)
            replace HK := Lib.hid (HK.out.below hb)
            clear hb
            go_wp2_with fail
            refine (few10 S a cap _ HK.out).mono ?_
            rintro e w9 ⟨rfl, rfl⟩
            rw [hF1]
            go_wp2_with fail
            refine (HNM.out _ HS1.out.et HK.out).mono ?_
            rintro e w2 ⟨a1, c1, er1, rfl, h9, e9, hb⟩
            have HA := Lib.hid h9
            have HE1 := Lib.hid e9
            clear h9 e9
            have HS2 := Lib.hid (HS1.out.next hb)
            replace HK := Lib.hid (HK.out.below hb)
            clear hb
            go_wp2_with fail
            refine (HEM.out _ HS2.out.et HK.out).mono ?_
            rintro e w3 ⟨er2, rfl, e9, hb⟩
            have HE2 := Lib.hid e9
            clear e9
            have HS3 := Lib.hid (HS2.out.next hb)
            replace HK := Lib.hid (HK.out.below hb)
            replace HA := Lib.hid (HA.out.below hb)
            replace HE1 := Lib.hid (HE1.out.below hb)
            clear hb
            go_wp2_with fail
            refine (HRR.out _ HK.out).mono ?_
            rintro e w4 ⟨rfl, hb⟩
            have HS4 := Lib.hid (HS3.out.next hb)
            replace HK := Lib.hid (HK.out.below hb)
            replace HA := Lib.hid (HA.out.below hb)
            replace HE1 := Lib.hid (HE1.out.below hb)
            replace HE2 := Lib.hid (HE2.out.below hb)
            clear hb
            go_wp2_with fail
            refine (HRN.out _ HK.out).mono ?_
            rintro e w5 ⟨a2, c2, rfl, h9, hb⟩
            have HC := Lib.hid h9
            clear h9
            have HS5 := Lib.hid (HS4.out.next hb)
            replace HK := Lib.hid (HK.out.below hb)
            replace HA := Lib.hid (HA.out.below hb)
            replace HE1 := Lib.hid (HE1.out.below hb)
            replace HE2 := Lib.hid (HE2.out.below hb)
            clear hb
            go_wp2_with fail
            refine (code_er _ _ _ HE1.out HS5.out.et).mono ?_
            rintro e w6 ⟨rfl, hb⟩
            have HS6 := Lib.hid (HS5.out.next hb)
            replace HK := Lib.hid (HK.out.below hb)
            replace HA := Lib.hid (HA.out.below hb)
            replace HE1 := Lib.hid (HE1.out.below hb)
            replace HE2 := Lib.hid (HE2.out.below hb)
            replace HC := Lib.hid (HC.out.below hb)
            clear hb
            go_wp2_with fail
            refine (code_er _ _ _ HE2.out HS6.out.et).mono ?_
            rintro e w7 ⟨rfl, hb⟩
            have HS7 := Lib.hid (HS6.out.next hb)
            replace HK := Lib.hid (HK.out.below hb)
            replace HA := Lib.hid (HA.out.below hb)
            replace HE1 := Lib.hid (HE1.out.below hb)
            replace HE2 := Lib.hid (HE2.out.below hb)
            replace HC := Lib.hid (HC.out.below hb)
            clear hb
            go_wp2
            go_loopg [11] 0 (fun g j wx => j = .int .i64 0 ∧ wx = w7)
            case atStart => exact ⟨rfl, rfl⟩
            case round =>
              obtain ⟨rfl, rfl⟩ := hrel
              go_wp2
              go_ret
              exact ⟨by first | rfl | simp, HS7.out.below⟩
          · have hz : ((N.length : Int) == 0) = false := by rw [beq_eq_false_iff_ne]; have := List.length_pos_iff.2 hN; omega
            rw [decide_eq_false (show ¬ (((0 : Int), N).1 = 0 ∧ ((0 : Int), N).2 = []) from fun h => hN h.2)] at HEM
            clear hN
            go_enter Tryz.func3, Tryz.ntmps3
            go_wp2_with fail
            refine (awake13 LN _ HS0.out.et).mono ?_
            rintro e w1 ⟨rfl, hb⟩
            have HS1 := Lib.hid (HS0.out.next hb)
            replace HK := Lib.hid (HK.out.below hb)
            clear hb
            go_wp2_with fail
            refine (few10 S a cap _ HK.out).mono ?_
            rintro e w9 ⟨rfl, rfl⟩
            rw [hF1]
            go_wp2_with fail
            refine (HNM.out _ HS1.out.et HK.out).mono ?_
            rintro e w2 ⟨a1, c1, er1, rfl, h9, e9, hb⟩
            have HA := Lib.hid h9
            have HE1 := Lib.hid e9
            clear h9 e9
            have HS2 := Lib.hid (HS1.out.next hb)
            replace HK := Lib.hid (HK.out.below hb)
            clear hb
            go_wp2_with fail
            refine (HEM.out _ HS2.out.et HK.out).mono ?_
            rintro e w3 ⟨er2, rfl, e9, hb⟩
            have HE2 := Lib.hid e9
            clear e9
            have HS3 := Lib.hid (HS2.out.next hb)
            replace HK := Lib.hid (HK.out.below hb)
            replace HA := Lib.hid (HA.out.below hb)
            replace HE1 := Lib.hid (HE1.out.below hb)
            clear hb
            go_wp2_with fail
            refine (HRR.out _ HK.out).mono ?_
            rintro e w4 ⟨rfl, hb⟩
            have HS4 := Lib.hid (HS3.out.next hb)
            replace HK := Lib.hid (HK.out.below hb)
            replace HA := Lib.hid (HA.out.below hb)
            replace HE1 := Lib.hid (HE1.out.below hb)
            replace HE2 := Lib.hid (HE2.out.below hb)
            clear hb
            go_wp2_with fail
            refine (HRN.out _ HK.out).mono ?_
            rintro e w5 ⟨a2, c2, rfl, h9, hb⟩
            have HC := Lib.hid h9
            clear h9
            have HS5 := Lib.hid (HS4.out.next hb)
            replace HK := Lib.hid (HK.out.below hb)
            replace HA := Lib.hid (HA.out.below hb)
            replace HE1 := Lib.hid (HE1.out.below hb)
            replace HE2 := Lib.hid (HE2.out.below hb)
            clear hb
            go_wp2_with fail
            refine (code_er _ _ _ HE1.out HS5.out.et).mono ?_
            rintro e w6 ⟨rfl, hb⟩
            have HS6 := Lib.hid (HS5.out.next hb)
            replace HK := Lib.hid (HK.out.below hb)
            replace HA := Lib.hid (HA.out.below hb)
            replace HE1 := Lib.hid (HE1.out.below hb)
            replace HE2 := Lib.hid (HE2.out.below hb)
            replace HC := Lib.hid (HC.out.below hb)
            clear hb
            go_wp2_with fail
            refine (code_er _ _ _ HE2.out HS6.out.et).mono ?_
            rintro e w7 ⟨rfl, hb⟩
            have HS7 := Lib.hid (HS6.out.next hb)
            replace HK := Lib.hid (HK.out.below hb)
            replace HA := Lib.hid (HA.out.below hb)
            replace HE1 := Lib.hid (HE1.out.below hb)
            replace HE2 := Lib.hid (HE2.out.below hb)
            replace HC := Lib.hid (HC.out.below hb)
            clear hb
            go_wp2
            go_loopg [11] N.length (fun g j wx => ∃ k : Nat, j = .int .i64 (k : Int) ∧ k + g = N.length ∧ Hid (Below w7.heap.size w7 wx))
            case atStart => exact ⟨0, rfl, by omega, Below.refl _ _⟩
            case round =>
              obtain ⟨k, rfl, hk, HBX⟩ := hrel
              have hw : IntKind.i64.wrap ((k : Int) + 1) = (k : Int) + 1 := IntWalk.i64_in _ (by have := HNL.out; omega)
              by_cases hlt : k < N.length
              · have hlt' : (k : Int) < (N.length : Int) := by omega
                have hd9 : decide ((k : Int) < (N.length : Int)) = true := decide_eq_true hlt'
                obtain ⟨b1, o1, rfl, hc1⟩ := Row.at9 HA.out HBX.out hlt
                obtain ⟨b2, o2, rfl, hc2⟩ := Row.at9 HC.out HBX.out hlt
                obtain ⟨y, hy⟩ : ∃ y, N[k] = y := ⟨_, rfl⟩
                rw [hy] at hc1 hc2
                have hyy : (y.toList == y.toList) = true := beq_iff_eq.2 rfl
                clear hy
                go_wp2
                go_quiet (fail)
                go_wp2
                go_roundg (gk - 1)
                case measure => omega
                case rel => exact ⟨k + 1, by simp, by omega, below_drewX HBX.out _⟩
              · have hlt' : ¬ (k : Int) < (N.length : Int) := by omega
                have hd9 : decide ((k : Int) < (N.length : Int)) = false := decide_eq_false hlt'
                go_wp2
                go_ret
                exact ⟨by first | rfl | simp, (HS7.out.next HBX.out).below⟩
        · obtain rfl : N = [] := HNE.out h0
          have g0 : (n1 == 0) = false := beq_eq_false_iff_ne.2 h0
          rw [decide_eq_false (show ¬ ((n1, ([] : List ByteArray)).1 = 0 ∧ (n1, ([] : List ByteArray)).2 = []) from fun h => h0 h.1)] at HEM
          clear h0
          go_enter Tryz.func3, Tryz.ntmps3
          go_wp2_with fail
          refine (awake13 LN _ HS0.out.et).mono ?_
          rintro e w1 ⟨rfl, hb⟩
          have HS1 := Lib.hid (HS0.out.next hb)
          replace HK := Lib.hid (HK.out.below hb)
          clear hb
          go_wp2_with fail
          refine (few10 S a cap _ HK.out).mono ?_
          rintro e w9 ⟨rfl, rfl⟩
          rw [hF1]
          go_wp2_with fail
          refine (HNM.out _ HS1.out.et HK.out).mono ?_
          rintro e w2 ⟨a1, c1, er1, rfl, h9, e9, hb⟩
          have HA := Lib.hid h9
          have HE1 := Lib.hid e9
          clear h9 e9
          have HS2 := Lib.hid (HS1.out.next hb)
          replace HK := Lib.hid (HK.out.below hb)
          clear hb
          go_wp2_with fail
          refine (HEM.out _ HS2.out.et HK.out).mono ?_
          rintro e w3 ⟨er2, rfl, e9, hb⟩
          have HE2 := Lib.hid e9
          clear e9
          have HS3 := Lib.hid (HS2.out.next hb)
          replace HK := Lib.hid (HK.out.below hb)
          replace HA := Lib.hid (HA.out.below hb)
          replace HE1 := Lib.hid (HE1.out.below hb)
          clear hb
          go_wp2_with fail
          refine (HRR.out _ HK.out).mono ?_
          rintro e w4 ⟨rfl, hb⟩
          have HS4 := Lib.hid (HS3.out.next hb)
          replace HK := Lib.hid (HK.out.below hb)
          replace HA := Lib.hid (HA.out.below hb)
          replace HE1 := Lib.hid (HE1.out.below hb)
          replace HE2 := Lib.hid (HE2.out.below hb)
          clear hb
          go_wp2_with fail
          refine (HRN.out _ HK.out).mono ?_
          rintro e w5 ⟨a2, c2, rfl, h9, hb⟩
          have HC := Lib.hid h9
          clear h9
          have HS5 := Lib.hid (HS4.out.next hb)
          replace HK := Lib.hid (HK.out.below hb)
          replace HA := Lib.hid (HA.out.below hb)
          replace HE1 := Lib.hid (HE1.out.below hb)
          replace HE2 := Lib.hid (HE2.out.below hb)
          clear hb
          go_wp2_with fail
          refine (code_er _ _ _ HE1.out HS5.out.et).mono ?_
          rintro e w6 ⟨rfl, hb⟩
          have HS6 := Lib.hid (HS5.out.next hb)
          replace HK := Lib.hid (HK.out.below hb)
          replace HA := Lib.hid (HA.out.below hb)
          replace HE1 := Lib.hid (HE1.out.below hb)
          replace HE2 := Lib.hid (HE2.out.below hb)
          replace HC := Lib.hid (HC.out.below hb)
          clear hb
          go_wp2_with fail
          refine (code_er _ _ _ HE2.out HS6.out.et).mono ?_
          rintro e w7 ⟨rfl, hb⟩
          have HS7 := Lib.hid (HS6.out.next hb)
          replace HK := Lib.hid (HK.out.below hb)
          replace HA := Lib.hid (HA.out.below hb)
          replace HE1 := Lib.hid (HE1.out.below hb)
          replace HE2 := Lib.hid (HE2.out.below hb)
          replace HC := Lib.hid (HC.out.below hb)
          clear hb
          go_wp2
          go_loopg [11] 0 (fun g j wx => j = .int .i64 0 ∧ wx = w7)
          case atStart => exact ⟨rfl, rfl⟩
          case round =>
            obtain ⟨rfl, rfl⟩ := hrel
            go_wp2
            go_ret
            exact ⟨by first | rfl | simp, HS7.out.below⟩
      · rw [decide_eq_false (show ¬ (S.length ≤ 9 ∧ ∀ l ∈ S, RightL l) from hok)] at HRR
        have h16 := HNB.out hok
        cases h16
        rw [decide_eq_false (show ¬ (((16 : Int), ([] : List ByteArray)).1 = 0 ∧ ((16 : Int), ([] : List ByteArray)).2 = []) from fun h => by cases h.1)] at HEM
        clear hr hok
        go_enter Tryz.func3, Tryz.ntmps3
        go_wp2_with fail
        refine (awake13 LN _ HS0.out.et).mono ?_
        rintro e w1 ⟨rfl, hb⟩
        have HS1 := Lib.hid (HS0.out.next hb)
        replace HK := Lib.hid (HK.out.below hb)
        clear hb
        go_wp2_with fail
        refine (few10 S a cap _ HK.out).mono ?_
        rintro e w9 ⟨rfl, rfl⟩
        rw [hF1]
        go_wp2_with fail
        refine (HNM.out _ HS1.out.et HK.out).mono ?_
        rintro e w2 ⟨a1, c1, er1, rfl, h9, e9, hb⟩
        have HA := Lib.hid h9
        have HE1 := Lib.hid e9
        clear h9 e9
        have HS2 := Lib.hid (HS1.out.next hb)
        replace HK := Lib.hid (HK.out.below hb)
        clear hb
        go_wp2_with fail
        refine (HEM.out _ HS2.out.et HK.out).mono ?_
        rintro e w3 ⟨er2, rfl, e9, hb⟩
        have HE2 := Lib.hid e9
        clear e9
        have HS3 := Lib.hid (HS2.out.next hb)
        replace HK := Lib.hid (HK.out.below hb)
        replace HA := Lib.hid (HA.out.below hb)
        replace HE1 := Lib.hid (HE1.out.below hb)
        clear hb
        go_wp2_with fail
        refine (HRR.out _ HK.out).mono ?_
        rintro e w4 ⟨rfl, hb⟩
        have HS4 := Lib.hid (HS3.out.next hb)
        replace HK := Lib.hid (HK.out.below hb)
        replace HA := Lib.hid (HA.out.below hb)
        replace HE1 := Lib.hid (HE1.out.below hb)
        replace HE2 := Lib.hid (HE2.out.below hb)
        clear hb
        go_wp2_with fail
        refine (code_er _ _ _ HE1.out HS4.out.et).mono ?_
        rintro e w5 ⟨rfl, hb⟩
        have HS5 := Lib.hid (HS4.out.next hb)
        replace HK := Lib.hid (HK.out.below hb)
        replace HA := Lib.hid (HA.out.below hb)
        replace HE1 := Lib.hid (HE1.out.below hb)
        replace HE2 := Lib.hid (HE2.out.below hb)
        clear hb
        go_wp2_with fail
        refine (code_er _ _ _ HE2.out HS5.out.et).mono ?_
        rintro e w6 ⟨rfl, hb⟩
        have HS6 := Lib.hid (HS5.out.next hb)
        replace HK := Lib.hid (HK.out.below hb)
        replace HA := Lib.hid (HA.out.below hb)
        replace HE1 := Lib.hid (HE1.out.below hb)
        replace HE2 := Lib.hid (HE2.out.below hb)
        clear hb
        go_wp2
        go_ret
        exact ⟨by first | rfl | simp, HS6.out.below⟩
  · have hF1 : (if FewOK S then (1 : Int) else 0) = 0 := if_neg hf
    clear hf
    go_enter Tryz.func3, Tryz.ntmps3
    go_wp2_with fail
    refine (awake13 LN _ HS0.out.et).mono ?_
    rintro e w1 ⟨rfl, hb⟩
    have HS1 := Lib.hid (HS0.out.next hb)
    replace HK := Lib.hid (HK.out.below hb)
    clear hb
    go_wp2_with fail
    refine (few10 S a cap _ HK.out).mono ?_
    rintro e w9 ⟨rfl, rfl⟩
    rw [hF1]
    go_wp2_with fail
    refine (awake13 LN _ HS1.out.et).mono ?_
    rintro e w2 ⟨rfl, hb⟩
    have HS2 := Lib.hid (HS1.out.next hb)
    replace HK := Lib.hid (HK.out.below hb)
    clear hb
    go_wp2
    go_ret
    exact ⟨by first | rfl | simp, HS2.out.below⟩
end Go.Proofs.YtemnlolkmjdefaaGreatDoor
