/-
  The law MergeThree walked over Two15, Stack15: for every three layers it returns true and changes nothing that was there. Conditions: packages merge and fold answer as these say; the layers lie in memory; errorType holds error's type.
-/
import Derived.Test.YtkclclhmeenncaaGreatDoorS15Awake
import Derived.Test.YtkclclhmeenncaaGreatDoorS15Laws
import Derived.Test.YtkclclhmeenncaaGreatDoorS15Lit
import Derived.Test.YtkclclhmeenncaaGreatDoorPc
import Derived.IntWalk
namespace Go.Proofs.YtkclclhmeenncaaGreatDoor
open Go.RowKit

set_option maxRecDepth 10000 in
set_option maxHeartbeats 8000000 in
theorem lawThree15 (L2 : Two15) (LS : Stack15) (A B C : List Ent) (bot : Bool) (a1 : Option Addr) (c1 : Nat) (a2 : Option Addr) (c2 : Nat) (a3 : Option Addr) (c3 : Nat) (W : World) (hg : EtLaid W) (ha : Ents W a1 c1 A) (hb0 : Ents W a2 c2 B) (hc0 : Ents W a3 c3 C) : Calls Tryz.prog 4 #[.slice a1 A.length c1, .slice a2 B.length c2, .slice a3 C.length c3, .bool bot] W fun e w' => e = .returned (.bool true) ∧ Below W.heap.size W w' := by
  have HS0 := Lib.hid (st_self hg)
  have HA := Lib.hid ha
  have HB := Lib.hid hb0
  have HC := Lib.hid hc0
  clear hg ha hb0 hc0
  by_cases hz1 : SizeOK A
  · have hF1 : (if SizeOK A then (1 : Int) else 0) = 1 := if_pos hz1
    by_cases hz2 : SizeOK B
    · have hF2 : (if SizeOK B then (1 : Int) else 0) = 1 := if_pos hz2
      by_cases hz3 : SizeOK C
      · have hF3 : (if SizeOK C then (1 : Int) else 0) = 1 := if_pos hz3
        have HSMA := Lib.hid (sm_size hz1)
        have HSMB := Lib.hid (sm_size hz2)
        have HSMC := Lib.hid (sm_size hz3)
        have hw1 : IntKind.i64.wrap ((A.length : Int) + (B.length : Int)) = (A.length : Int) + (B.length : Int) := IntWalk.i64_in _ (by have := HSMA.out.1; have := HSMB.out.1; omega)
        have hw2 : IntKind.i64.wrap ((A.length : Int) + (B.length : Int) + (C.length : Int)) = (A.length : Int) + (B.length : Int) + (C.length : Int) := IntWalk.i64_in _ (by have := HSMA.out.1; have := HSMB.out.1; have := HSMC.out.1; omega)
        clear hz1 hz2 hz3
        by_cases h64 : (64 : Int) < (A.length : Int) + (B.length : Int) + (C.length : Int)
        · go_enter Tryz.func4, Tryz.ntmps4
          go_wp2_with fail
          refine (awake15 L2 _ HS0.out.et).mono ?_
          rintro e w1 ⟨rfl, hb⟩
          have HS1 := Lib.hid (HS0.out.next hb)
          replace HA := Lib.hid (RowN.below HA.out hb)
          replace HB := Lib.hid (RowN.below HB.out hb)
          replace HC := Lib.hid (RowN.below HC.out hb)
          clear hb
          go_wp2_with fail
          refine (size9 A a1 c1 _ HA.out).mono ?_
          rintro e w9 ⟨rfl, rfl⟩
          rw [hF1]
          go_wp2_with fail
          refine (size9 B a2 c2 _ HB.out).mono ?_
          rintro e w9 ⟨rfl, rfl⟩
          rw [hF2]
          go_wp2_with fail
          refine (size9 C a3 c3 _ HC.out).mono ?_
          rintro e w9 ⟨rfl, rfl⟩
          rw [hF3]
          go_wp2_with fail
          refine (awake15 L2 _ HS1.out.et).mono ?_
          rintro e w2 ⟨rfl, hb⟩
          have HS2 := Lib.hid (HS1.out.next hb)
          replace HA := Lib.hid (RowN.below HA.out hb)
          replace HB := Lib.hid (RowN.below HB.out hb)
          replace HC := Lib.hid (RowN.below HC.out hb)
          clear hb
          go_wp2
          go_ret
          exact ⟨by first | rfl | simp, HS2.out.below⟩
        · have hn : A.length + B.length + C.length ≤ 64 := by omega
          by_cases hAB : RightL A ∧ RightL B
          · by_cases hrC : RightL C
            · have hrA := hAB.1
              have hrB := hAB.2
              obtain ⟨X, hX⟩ : ∃ X, two15 A B bot = X := ⟨_, rfl⟩
              obtain ⟨Y, hY⟩ : ∃ Y, two15 B C false = Y := ⟨_, rfl⟩
              obtain ⟨T, hT⟩ : ∃ T, two15 X C bot = T := ⟨_, rfl⟩
              have HTH := Lib.hid (three15 hrA hrB hrC (by omega) bot)
              have HSX := Lib.hid (sm_right HTH.out.2.1)
              have HSY := Lib.hid (sm_right HTH.out.2.2.2.1)
              have H1 : Hid (∀ w, EtLaid w → Ents w a1 c1 A → Ents w a2 c2 B → Calls Tryz.prog 9 #[.slice a1 A.length c1, .slice a2 B.length c2, .bool bot] w fun e w' => ∃ a' c' er, e = .returned (.tuple #[.slice a' X.length c', er]) ∧ Ents w' a' c' X ∧ Er w' 0 er ∧ Below w.heap.size w w') := fun w h1 h2 h3 => by
                have := L2 A a1 c1 B a2 c2 bot w h1 h2 h3 HSMA.out HSMB.out
                rwa [HTH.out.1, hX] at this
              have H2 : Hid (∀ w, EtLaid w → Ents w a2 c2 B → Ents w a3 c3 C → Calls Tryz.prog 9 #[.slice a2 B.length c2, .slice a3 C.length c3, .bool false] w fun e w' => ∃ a' c' er, e = .returned (.tuple #[.slice a' Y.length c', er]) ∧ Ents w' a' c' Y ∧ Er w' 0 er ∧ Below w.heap.size w w') := fun w h1 h2 h3 => by
                have := L2 B a2 c2 C a3 c3 false w h1 h2 h3 HSMB.out HSMC.out
                rwa [HTH.out.2.2.1, hY] at this
              have H3 : Hid (∀ w, EtLaid w → ∀ {a' : Option Addr} {c' : Nat}, Ents w a' c' X → Ents w a3 c3 C → Calls Tryz.prog 9 #[.slice a' X.length c', .slice a3 C.length c3, .bool bot] w fun e w' => ∃ a' c' er, e = .returned (.tuple #[.slice a' T.length c', er]) ∧ Ents w' a' c' T ∧ Er w' 0 er ∧ Below w.heap.size w w') := fun w h1 {a' c'} h2 h3 => by
                have := L2 X a' c' C a3 c3 bot w h1 h2 h3 (by rw [← hX]; exact HSX.out) HSMC.out
                rwa [← hX, HTH.out.2.2.2.2.1, hX, hT] at this
              have H4 : Hid (∀ w, EtLaid w → ∀ {a' : Option Addr} {c' : Nat}, Ents w a1 c1 A → Ents w a' c' Y → Calls Tryz.prog 9 #[.slice a1 A.length c1, .slice a' Y.length c', .bool bot] w fun e w' => ∃ a' c' er, e = .returned (.tuple #[.slice a' T.length c', er]) ∧ Ents w' a' c' T ∧ Er w' 0 er ∧ Below w.heap.size w w') := fun w h1 {a' c'} h2 h3 => by
                have := L2 A a1 c1 Y a' c' bot w h1 h2 h3 HSMA.out (by rw [← hY]; exact HSY.out)
                rwa [← hY, HTH.out.2.2.2.2.2, hY, hX, hT] at this
              have HTL := Lib.hid (show T.length ≤ 64 by
                have h1 := two_len (two15 A B bot) C bot
                have h2 := two_len A B bot
                rw [hX, hT] at h1
                rw [hX] at h2
                omega)
              have hrT : RightL T := ⟨HTL.out, by rw [← hT, ← hX]; exact rl_two HTH.out.2.1.2 hrC.2 bot⟩
              have HSMT := Lib.hid (show ∀ x ∈ [T], Sm x from fun x hx => by rw [List.mem_singleton.1 hx]; exact sm_right hrT)
              have HML2 := Lib.hid (show T.length ≤ maxLen by have := HTL.out; unfold maxLen; omega)
              have HML := Lib.hid (show (fsV [T]).length ≤ maxLen by
                have h9 := over_len T []
                have h8 := HTL.out
                unfold fsV
                split
                · show (over [] T).length ≤ maxLen
                  unfold maxLen
                  simp at h9
                  omega
                · unfold maxLen; simp)
              clear hX hY hT hrT
              clear hrA hrB hrC hAB hn
              cases bot with
              | true =>
                go_enter Tryz.func4, Tryz.ntmps4
                go_wp2_with fail
                refine (awake15 L2 _ HS0.out.et).mono ?_
                rintro e w1 ⟨rfl, hb⟩
                have HS1 := Lib.hid (HS0.out.next hb)
                replace HA := Lib.hid (RowN.below HA.out hb)
                replace HB := Lib.hid (RowN.below HB.out hb)
                replace HC := Lib.hid (RowN.below HC.out hb)
                clear hb
                go_wp2_with fail
                refine (size9 A a1 c1 _ HA.out).mono ?_
                rintro e w9 ⟨rfl, rfl⟩
                rw [hF1]
                go_wp2_with fail
                refine (size9 B a2 c2 _ HB.out).mono ?_
                rintro e w9 ⟨rfl, rfl⟩
                rw [hF2]
                go_wp2_with fail
                refine (size9 C a3 c3 _ HC.out).mono ?_
                rintro e w9 ⟨rfl, rfl⟩
                rw [hF3]
                go_wp2_with fail
                refine (H1.out _ HS1.out.et HA.out HB.out).mono ?_
                rintro e w2 ⟨aX, cX, eX, rfl, h9, e9, hb⟩
                have HX := Lib.hid h9
                have HEX := Lib.hid e9
                clear h9 e9
                have HS2 := Lib.hid (HS1.out.next hb)
                replace HA := Lib.hid (RowN.below HA.out hb)
                replace HB := Lib.hid (RowN.below HB.out hb)
                replace HC := Lib.hid (RowN.below HC.out hb)
                clear hb
                go_wp2_with fail
                refine (H2.out _ HS2.out.et HB.out HC.out).mono ?_
                rintro e w3 ⟨aY, cY, eY, rfl, h9, e9, hb⟩
                have HY := Lib.hid h9
                have HEY := Lib.hid e9
                clear h9 e9
                have HS3 := Lib.hid (HS2.out.next hb)
                replace HA := Lib.hid (RowN.below HA.out hb)
                replace HB := Lib.hid (RowN.below HB.out hb)
                replace HC := Lib.hid (RowN.below HC.out hb)
                replace HX := Lib.hid (RowN.below HX.out hb)
                replace HEX := Lib.hid (HEX.out.below hb)
                clear hb
                go_wp2_with fail
                refine (code_er _ _ _ HEX.out HS3.out.et).mono ?_
                rintro e w4 ⟨rfl, hb⟩
                have HS4 := Lib.hid (HS3.out.next hb)
                replace HA := Lib.hid (RowN.below HA.out hb)
                replace HB := Lib.hid (RowN.below HB.out hb)
                replace HC := Lib.hid (RowN.below HC.out hb)
                replace HX := Lib.hid (RowN.below HX.out hb)
                replace HEX := Lib.hid (HEX.out.below hb)
                replace HY := Lib.hid (RowN.below HY.out hb)
                replace HEY := Lib.hid (HEY.out.below hb)
                clear hb
                go_wp2_with fail
                refine (code_er _ _ _ HEY.out HS4.out.et).mono ?_
                rintro e w5 ⟨rfl, hb⟩
                have HS5 := Lib.hid (HS4.out.next hb)
                replace HA := Lib.hid (RowN.below HA.out hb)
                replace HB := Lib.hid (RowN.below HB.out hb)
                replace HC := Lib.hid (RowN.below HC.out hb)
                replace HX := Lib.hid (RowN.below HX.out hb)
                replace HEX := Lib.hid (HEX.out.below hb)
                replace HY := Lib.hid (RowN.below HY.out hb)
                replace HEY := Lib.hid (HEY.out.below hb)
                clear hb
                go_wp2_with fail
                refine (H3.out _ HS5.out.et HX.out HC.out).mono ?_
                rintro e w6 ⟨aZ, cZ, eZ, rfl, h9, e9, hb⟩
                have HZ := Lib.hid h9
                have HEZ := Lib.hid e9
                clear h9 e9
                have HS6 := Lib.hid (HS5.out.next hb)
                replace HA := Lib.hid (RowN.below HA.out hb)
                replace HB := Lib.hid (RowN.below HB.out hb)
                replace HC := Lib.hid (RowN.below HC.out hb)
                replace HX := Lib.hid (RowN.below HX.out hb)
                replace HEX := Lib.hid (HEX.out.below hb)
                replace HY := Lib.hid (RowN.below HY.out hb)
                replace HEY := Lib.hid (HEY.out.below hb)
                clear hb
                go_wp2_with fail
                refine (H4.out _ HS6.out.et HA.out HY.out).mono ?_
                rintro e w7 ⟨aV, cV, eV, rfl, h9, e9, hb⟩
                have HV := Lib.hid h9
                have HEV := Lib.hid e9
                clear h9 e9
                have HS7 := Lib.hid (HS6.out.next hb)
                replace HA := Lib.hid (RowN.below HA.out hb)
                replace HB := Lib.hid (RowN.below HB.out hb)
                replace HC := Lib.hid (RowN.below HC.out hb)
                replace HX := Lib.hid (RowN.below HX.out hb)
                replace HEX := Lib.hid (HEX.out.below hb)
                replace HY := Lib.hid (RowN.below HY.out hb)
                replace HEY := Lib.hid (HEY.out.below hb)
                replace HZ := Lib.hid (RowN.below HZ.out hb)
                replace HEZ := Lib.hid (HEZ.out.below hb)
                clear hb
                go_wp2_with fail
                refine (code_er _ _ _ HEZ.out HS7.out.et).mono ?_
                rintro e w8 ⟨rfl, hb⟩
                have HS8 := Lib.hid (HS7.out.next hb)
                replace HA := Lib.hid (RowN.below HA.out hb)
                replace HB := Lib.hid (RowN.below HB.out hb)
                replace HC := Lib.hid (RowN.below HC.out hb)
                replace HX := Lib.hid (RowN.below HX.out hb)
                replace HEX := Lib.hid (HEX.out.below hb)
                replace HY := Lib.hid (RowN.below HY.out hb)
                replace HEY := Lib.hid (HEY.out.below hb)
                replace HZ := Lib.hid (RowN.below HZ.out hb)
                replace HEZ := Lib.hid (HEZ.out.below hb)
                replace HV := Lib.hid (RowN.below HV.out hb)
                replace HEV := Lib.hid (HEV.out.below hb)
                clear hb
                go_wp2_with fail
                refine (code_er _ _ _ HEV.out HS8.out.et).mono ?_
                rintro e w9 ⟨rfl, hb⟩
                have HS9 := Lib.hid (HS8.out.next hb)
                replace HA := Lib.hid (RowN.below HA.out hb)
                replace HB := Lib.hid (RowN.below HB.out hb)
                replace HC := Lib.hid (RowN.below HC.out hb)
                replace HX := Lib.hid (RowN.below HX.out hb)
                replace HEX := Lib.hid (HEX.out.below hb)
                replace HY := Lib.hid (RowN.below HY.out hb)
                replace HEY := Lib.hid (HEY.out.below hb)
                replace HZ := Lib.hid (RowN.below HZ.out hb)
                replace HEZ := Lib.hid (HEZ.out.below hb)
                replace HV := Lib.hid (RowN.below HV.out hb)
                replace HEV := Lib.hid (HEV.out.below hb)
                clear hb
                have hb : Below w9.heap.size w9 (w9.alloc (.cells #[.slice aZ T.length cZ] 23)) := (Below.refl _ _).alloc (Nat.le_refl _) _
                have hk9 := lit15a w9 aZ cZ T HZ.out
                obtain ⟨w10, hw10⟩ : ∃ v, w9.alloc (.cells #[.slice aZ T.length cZ] 23) = v := ⟨_, rfl⟩
                obtain ⟨M9, hM9⟩ : ∃ M, w9.heap.size = M := ⟨_, rfl⟩
                rw [hw10] at hb hk9
                rw [hM9] at hk9
                have HL9 := Lib.hid hk9
                clear hk9
                have HS10 := Lib.hid (HS9.out.next hb)
                replace HA := Lib.hid (RowN.below HA.out hb)
                replace HB := Lib.hid (RowN.below HB.out hb)
                replace HC := Lib.hid (RowN.below HC.out hb)
                replace HX := Lib.hid (RowN.below HX.out hb)
                replace HEX := Lib.hid (HEX.out.below hb)
                replace HY := Lib.hid (RowN.below HY.out hb)
                replace HEY := Lib.hid (HEY.out.below hb)
                replace HZ := Lib.hid (RowN.below HZ.out hb)
                replace HEZ := Lib.hid (HEZ.out.below hb)
                replace HV := Lib.hid (RowN.below HV.out hb)
                replace HEV := Lib.hid (HEV.out.below hb)
                clear hb
                go_wp2_with fail
                refine (LS [T] _ 1 _ HS10.out.et HL9.out (by simp) HSMT.out).mono ?_
                rintro e w11 ⟨aP, cP, rfl, h9, hb⟩
                clear hw10 hM9
                have HP := Lib.hid h9
                clear h9
                have HS11 := Lib.hid (HS10.out.next hb)
                replace HA := Lib.hid (RowN.below HA.out hb)
                replace HB := Lib.hid (RowN.below HB.out hb)
                replace HC := Lib.hid (RowN.below HC.out hb)
                replace HX := Lib.hid (RowN.below HX.out hb)
                replace HEX := Lib.hid (HEX.out.below hb)
                replace HY := Lib.hid (RowN.below HY.out hb)
                replace HEY := Lib.hid (HEY.out.below hb)
                replace HZ := Lib.hid (RowN.below HZ.out hb)
                replace HEZ := Lib.hid (HEZ.out.below hb)
                replace HV := Lib.hid (RowN.below HV.out hb)
                replace HEV := Lib.hid (HEV.out.below hb)
                replace HL9 := Lib.hid (HL9.out.below hb)
                clear hb
                have hb : Below w11.heap.size w11 (w11.alloc (.cells #[.slice aV T.length cV] 23)) := (Below.refl _ _).alloc (Nat.le_refl _) _
                have hk9 := lit15a w11 aV cV T HV.out
                obtain ⟨w12, hw12⟩ : ∃ v, w11.alloc (.cells #[.slice aV T.length cV] 23) = v := ⟨_, rfl⟩
                obtain ⟨M11, hM11⟩ : ∃ M, w11.heap.size = M := ⟨_, rfl⟩
                rw [hw12] at hb hk9
                rw [hM11] at hk9
                have HL11 := Lib.hid hk9
                clear hk9
                have HS12 := Lib.hid (HS11.out.next hb)
                replace HA := Lib.hid (RowN.below HA.out hb)
                replace HB := Lib.hid (RowN.below HB.out hb)
                replace HC := Lib.hid (RowN.below HC.out hb)
                replace HX := Lib.hid (RowN.below HX.out hb)
                replace HEX := Lib.hid (HEX.out.below hb)
                replace HY := Lib.hid (RowN.below HY.out hb)
                replace HEY := Lib.hid (HEY.out.below hb)
                replace HZ := Lib.hid (RowN.below HZ.out hb)
                replace HEZ := Lib.hid (HEZ.out.below hb)
                replace HV := Lib.hid (RowN.below HV.out hb)
                replace HEV := Lib.hid (HEV.out.below hb)
                replace HL9 := Lib.hid (HL9.out.below hb)
                replace HP := Lib.hid (RowN.below HP.out hb)
                clear hb
                go_wp2_with fail
                refine (LS [T] _ 1 _ HS12.out.et HL11.out (by simp) HSMT.out).mono ?_
                rintro e w13 ⟨aQ, cQ, rfl, h9, hb⟩
                clear hw12 hM11
                have HQ := Lib.hid h9
                clear h9
                have HS13 := Lib.hid (HS12.out.next hb)
                replace HA := Lib.hid (RowN.below HA.out hb)
                replace HB := Lib.hid (RowN.below HB.out hb)
                replace HC := Lib.hid (RowN.below HC.out hb)
                replace HX := Lib.hid (RowN.below HX.out hb)
                replace HEX := Lib.hid (HEX.out.below hb)
                replace HY := Lib.hid (RowN.below HY.out hb)
                replace HEY := Lib.hid (HEY.out.below hb)
                replace HZ := Lib.hid (RowN.below HZ.out hb)
                replace HEZ := Lib.hid (HEZ.out.below hb)
                replace HV := Lib.hid (RowN.below HV.out hb)
                replace HEV := Lib.hid (HEV.out.below hb)
                replace HL9 := Lib.hid (HL9.out.below hb)
                replace HP := Lib.hid (RowN.below HP.out hb)
                replace HL11 := Lib.hid (HL11.out.below hb)
                clear hb
                go_wp2_with fail
                refine (same9 _ _ _ _ _ _ _ HP.out HQ.out HML.out).mono ?_
                rintro e w14 ⟨rfl, hb⟩
                rw [if_pos rfl]
                have HS14 := Lib.hid (HS13.out.next hb)
                replace HA := Lib.hid (RowN.below HA.out hb)
                replace HB := Lib.hid (RowN.below HB.out hb)
                replace HC := Lib.hid (RowN.below HC.out hb)
                replace HX := Lib.hid (RowN.below HX.out hb)
                replace HEX := Lib.hid (HEX.out.below hb)
                replace HY := Lib.hid (RowN.below HY.out hb)
                replace HEY := Lib.hid (HEY.out.below hb)
                replace HZ := Lib.hid (RowN.below HZ.out hb)
                replace HEZ := Lib.hid (HEZ.out.below hb)
                replace HV := Lib.hid (RowN.below HV.out hb)
                replace HEV := Lib.hid (HEV.out.below hb)
                replace HL9 := Lib.hid (HL9.out.below hb)
                replace HP := Lib.hid (RowN.below HP.out hb)
                replace HL11 := Lib.hid (HL11.out.below hb)
                replace HQ := Lib.hid (RowN.below HQ.out hb)
                clear hb
                go_wp2_with fail
                refine (same9 _ _ _ _ _ _ _ HZ.out HV.out HML2.out).mono ?_
                rintro e w15 ⟨rfl, hb⟩
                rw [if_pos rfl]
                have HS15 := Lib.hid (HS14.out.next hb)
                replace HA := Lib.hid (RowN.below HA.out hb)
                replace HB := Lib.hid (RowN.below HB.out hb)
                replace HC := Lib.hid (RowN.below HC.out hb)
                replace HX := Lib.hid (RowN.below HX.out hb)
                replace HEX := Lib.hid (HEX.out.below hb)
                replace HY := Lib.hid (RowN.below HY.out hb)
                replace HEY := Lib.hid (HEY.out.below hb)
                replace HZ := Lib.hid (RowN.below HZ.out hb)
                replace HEZ := Lib.hid (HEZ.out.below hb)
                replace HV := Lib.hid (RowN.below HV.out hb)
                replace HEV := Lib.hid (HEV.out.below hb)
                replace HL9 := Lib.hid (HL9.out.below hb)
                replace HP := Lib.hid (RowN.below HP.out hb)
                replace HL11 := Lib.hid (HL11.out.below hb)
                replace HQ := Lib.hid (RowN.below HQ.out hb)
                clear hb
                go_wp2
                go_ret
                exact ⟨by first | rfl | simp, HS15.out.below⟩
              | false =>
                go_enter Tryz.func4, Tryz.ntmps4
                go_wp2_with fail
                refine (awake15 L2 _ HS0.out.et).mono ?_
                rintro e w1 ⟨rfl, hb⟩
                have HS1 := Lib.hid (HS0.out.next hb)
                replace HA := Lib.hid (RowN.below HA.out hb)
                replace HB := Lib.hid (RowN.below HB.out hb)
                replace HC := Lib.hid (RowN.below HC.out hb)
                clear hb
                go_wp2_with fail
                refine (size9 A a1 c1 _ HA.out).mono ?_
                rintro e w9 ⟨rfl, rfl⟩
                rw [hF1]
                go_wp2_with fail
                refine (size9 B a2 c2 _ HB.out).mono ?_
                rintro e w9 ⟨rfl, rfl⟩
                rw [hF2]
                go_wp2_with fail
                refine (size9 C a3 c3 _ HC.out).mono ?_
                rintro e w9 ⟨rfl, rfl⟩
                rw [hF3]
                go_wp2_with fail
                refine (H1.out _ HS1.out.et HA.out HB.out).mono ?_
                rintro e w2 ⟨aX, cX, eX, rfl, h9, e9, hb⟩
                have HX := Lib.hid h9
                have HEX := Lib.hid e9
                clear h9 e9
                have HS2 := Lib.hid (HS1.out.next hb)
                replace HA := Lib.hid (RowN.below HA.out hb)
                replace HB := Lib.hid (RowN.below HB.out hb)
                replace HC := Lib.hid (RowN.below HC.out hb)
                clear hb
                go_wp2_with fail
                refine (H2.out _ HS2.out.et HB.out HC.out).mono ?_
                rintro e w3 ⟨aY, cY, eY, rfl, h9, e9, hb⟩
                have HY := Lib.hid h9
                have HEY := Lib.hid e9
                clear h9 e9
                have HS3 := Lib.hid (HS2.out.next hb)
                replace HA := Lib.hid (RowN.below HA.out hb)
                replace HB := Lib.hid (RowN.below HB.out hb)
                replace HC := Lib.hid (RowN.below HC.out hb)
                replace HX := Lib.hid (RowN.below HX.out hb)
                replace HEX := Lib.hid (HEX.out.below hb)
                clear hb
                go_wp2_with fail
                refine (code_er _ _ _ HEX.out HS3.out.et).mono ?_
                rintro e w4 ⟨rfl, hb⟩
                have HS4 := Lib.hid (HS3.out.next hb)
                replace HA := Lib.hid (RowN.below HA.out hb)
                replace HB := Lib.hid (RowN.below HB.out hb)
                replace HC := Lib.hid (RowN.below HC.out hb)
                replace HX := Lib.hid (RowN.below HX.out hb)
                replace HEX := Lib.hid (HEX.out.below hb)
                replace HY := Lib.hid (RowN.below HY.out hb)
                replace HEY := Lib.hid (HEY.out.below hb)
                clear hb
                go_wp2_with fail
                refine (code_er _ _ _ HEY.out HS4.out.et).mono ?_
                rintro e w5 ⟨rfl, hb⟩
                have HS5 := Lib.hid (HS4.out.next hb)
                replace HA := Lib.hid (RowN.below HA.out hb)
                replace HB := Lib.hid (RowN.below HB.out hb)
                replace HC := Lib.hid (RowN.below HC.out hb)
                replace HX := Lib.hid (RowN.below HX.out hb)
                replace HEX := Lib.hid (HEX.out.below hb)
                replace HY := Lib.hid (RowN.below HY.out hb)
                replace HEY := Lib.hid (HEY.out.below hb)
                clear hb
                go_wp2_with fail
                refine (H3.out _ HS5.out.et HX.out HC.out).mono ?_
                rintro e w6 ⟨aZ, cZ, eZ, rfl, h9, e9, hb⟩
                have HZ := Lib.hid h9
                have HEZ := Lib.hid e9
                clear h9 e9
                have HS6 := Lib.hid (HS5.out.next hb)
                replace HA := Lib.hid (RowN.below HA.out hb)
                replace HB := Lib.hid (RowN.below HB.out hb)
                replace HC := Lib.hid (RowN.below HC.out hb)
                replace HX := Lib.hid (RowN.below HX.out hb)
                replace HEX := Lib.hid (HEX.out.below hb)
                replace HY := Lib.hid (RowN.below HY.out hb)
                replace HEY := Lib.hid (HEY.out.below hb)
                clear hb
                go_wp2_with fail
                refine (H4.out _ HS6.out.et HA.out HY.out).mono ?_
                rintro e w7 ⟨aV, cV, eV, rfl, h9, e9, hb⟩
                have HV := Lib.hid h9
                have HEV := Lib.hid e9
                clear h9 e9
                have HS7 := Lib.hid (HS6.out.next hb)
                replace HA := Lib.hid (RowN.below HA.out hb)
                replace HB := Lib.hid (RowN.below HB.out hb)
                replace HC := Lib.hid (RowN.below HC.out hb)
                replace HX := Lib.hid (RowN.below HX.out hb)
                replace HEX := Lib.hid (HEX.out.below hb)
                replace HY := Lib.hid (RowN.below HY.out hb)
                replace HEY := Lib.hid (HEY.out.below hb)
                replace HZ := Lib.hid (RowN.below HZ.out hb)
                replace HEZ := Lib.hid (HEZ.out.below hb)
                clear hb
                go_wp2_with fail
                refine (code_er _ _ _ HEZ.out HS7.out.et).mono ?_
                rintro e w8 ⟨rfl, hb⟩
                have HS8 := Lib.hid (HS7.out.next hb)
                replace HA := Lib.hid (RowN.below HA.out hb)
                replace HB := Lib.hid (RowN.below HB.out hb)
                replace HC := Lib.hid (RowN.below HC.out hb)
                replace HX := Lib.hid (RowN.below HX.out hb)
                replace HEX := Lib.hid (HEX.out.below hb)
                replace HY := Lib.hid (RowN.below HY.out hb)
                replace HEY := Lib.hid (HEY.out.below hb)
                replace HZ := Lib.hid (RowN.below HZ.out hb)
                replace HEZ := Lib.hid (HEZ.out.below hb)
                replace HV := Lib.hid (RowN.below HV.out hb)
                replace HEV := Lib.hid (HEV.out.below hb)
                clear hb
                go_wp2_with fail
                refine (code_er _ _ _ HEV.out HS8.out.et).mono ?_
                rintro e w9 ⟨rfl, hb⟩
                have HS9 := Lib.hid (HS8.out.next hb)
                replace HA := Lib.hid (RowN.below HA.out hb)
                replace HB := Lib.hid (RowN.below HB.out hb)
                replace HC := Lib.hid (RowN.below HC.out hb)
                replace HX := Lib.hid (RowN.below HX.out hb)
                replace HEX := Lib.hid (HEX.out.below hb)
                replace HY := Lib.hid (RowN.below HY.out hb)
                replace HEY := Lib.hid (HEY.out.below hb)
                replace HZ := Lib.hid (RowN.below HZ.out hb)
                replace HEZ := Lib.hid (HEZ.out.below hb)
                replace HV := Lib.hid (RowN.below HV.out hb)
                replace HEV := Lib.hid (HEV.out.below hb)
                clear hb
                have hb : Below w9.heap.size w9 (w9.alloc (.cells #[.slice aZ T.length cZ] 23)) := (Below.refl _ _).alloc (Nat.le_refl _) _
                have hk9 := lit15a w9 aZ cZ T HZ.out
                obtain ⟨w10, hw10⟩ : ∃ v, w9.alloc (.cells #[.slice aZ T.length cZ] 23) = v := ⟨_, rfl⟩
                obtain ⟨M9, hM9⟩ : ∃ M, w9.heap.size = M := ⟨_, rfl⟩
                rw [hw10] at hb hk9
                rw [hM9] at hk9
                have HL9 := Lib.hid hk9
                clear hk9
                have HS10 := Lib.hid (HS9.out.next hb)
                replace HA := Lib.hid (RowN.below HA.out hb)
                replace HB := Lib.hid (RowN.below HB.out hb)
                replace HC := Lib.hid (RowN.below HC.out hb)
                replace HX := Lib.hid (RowN.below HX.out hb)
                replace HEX := Lib.hid (HEX.out.below hb)
                replace HY := Lib.hid (RowN.below HY.out hb)
                replace HEY := Lib.hid (HEY.out.below hb)
                replace HZ := Lib.hid (RowN.below HZ.out hb)
                replace HEZ := Lib.hid (HEZ.out.below hb)
                replace HV := Lib.hid (RowN.below HV.out hb)
                replace HEV := Lib.hid (HEV.out.below hb)
                clear hb
                go_wp2_with fail
                refine (LS [T] _ 1 _ HS10.out.et HL9.out (by simp) HSMT.out).mono ?_
                rintro e w11 ⟨aP, cP, rfl, h9, hb⟩
                clear hw10 hM9
                have HP := Lib.hid h9
                clear h9
                have HS11 := Lib.hid (HS10.out.next hb)
                replace HA := Lib.hid (RowN.below HA.out hb)
                replace HB := Lib.hid (RowN.below HB.out hb)
                replace HC := Lib.hid (RowN.below HC.out hb)
                replace HX := Lib.hid (RowN.below HX.out hb)
                replace HEX := Lib.hid (HEX.out.below hb)
                replace HY := Lib.hid (RowN.below HY.out hb)
                replace HEY := Lib.hid (HEY.out.below hb)
                replace HZ := Lib.hid (RowN.below HZ.out hb)
                replace HEZ := Lib.hid (HEZ.out.below hb)
                replace HV := Lib.hid (RowN.below HV.out hb)
                replace HEV := Lib.hid (HEV.out.below hb)
                replace HL9 := Lib.hid (HL9.out.below hb)
                clear hb
                have hb : Below w11.heap.size w11 (w11.alloc (.cells #[.slice aV T.length cV] 23)) := (Below.refl _ _).alloc (Nat.le_refl _) _
                have hk9 := lit15a w11 aV cV T HV.out
                obtain ⟨w12, hw12⟩ : ∃ v, w11.alloc (.cells #[.slice aV T.length cV] 23) = v := ⟨_, rfl⟩
                obtain ⟨M11, hM11⟩ : ∃ M, w11.heap.size = M := ⟨_, rfl⟩
                rw [hw12] at hb hk9
                rw [hM11] at hk9
                have HL11 := Lib.hid hk9
                clear hk9
                have HS12 := Lib.hid (HS11.out.next hb)
                replace HA := Lib.hid (RowN.below HA.out hb)
                replace HB := Lib.hid (RowN.below HB.out hb)
                replace HC := Lib.hid (RowN.below HC.out hb)
                replace HX := Lib.hid (RowN.below HX.out hb)
                replace HEX := Lib.hid (HEX.out.below hb)
                replace HY := Lib.hid (RowN.below HY.out hb)
                replace HEY := Lib.hid (HEY.out.below hb)
                replace HZ := Lib.hid (RowN.below HZ.out hb)
                replace HEZ := Lib.hid (HEZ.out.below hb)
                replace HV := Lib.hid (RowN.below HV.out hb)
                replace HEV := Lib.hid (HEV.out.below hb)
                replace HL9 := Lib.hid (HL9.out.below hb)
                replace HP := Lib.hid (RowN.below HP.out hb)
                clear hb
                go_wp2_with fail
                refine (LS [T] _ 1 _ HS12.out.et HL11.out (by simp) HSMT.out).mono ?_
                rintro e w13 ⟨aQ, cQ, rfl, h9, hb⟩
                clear hw12 hM11
                have HQ := Lib.hid h9
                clear h9
                have HS13 := Lib.hid (HS12.out.next hb)
                replace HA := Lib.hid (RowN.below HA.out hb)
                replace HB := Lib.hid (RowN.below HB.out hb)
                replace HC := Lib.hid (RowN.below HC.out hb)
                replace HX := Lib.hid (RowN.below HX.out hb)
                replace HEX := Lib.hid (HEX.out.below hb)
                replace HY := Lib.hid (RowN.below HY.out hb)
                replace HEY := Lib.hid (HEY.out.below hb)
                replace HZ := Lib.hid (RowN.below HZ.out hb)
                replace HEZ := Lib.hid (HEZ.out.below hb)
                replace HV := Lib.hid (RowN.below HV.out hb)
                replace HEV := Lib.hid (HEV.out.below hb)
                replace HL9 := Lib.hid (HL9.out.below hb)
                replace HP := Lib.hid (RowN.below HP.out hb)
                replace HL11 := Lib.hid (HL11.out.below hb)
                clear hb
                go_wp2_with fail
                refine (same9 _ _ _ _ _ _ _ HP.out HQ.out HML.out).mono ?_
                rintro e w14 ⟨rfl, hb⟩
                rw [if_pos rfl]
                have HS14 := Lib.hid (HS13.out.next hb)
                replace HA := Lib.hid (RowN.below HA.out hb)
                replace HB := Lib.hid (RowN.below HB.out hb)
                replace HC := Lib.hid (RowN.below HC.out hb)
                replace HX := Lib.hid (RowN.below HX.out hb)
                replace HEX := Lib.hid (HEX.out.below hb)
                replace HY := Lib.hid (RowN.below HY.out hb)
                replace HEY := Lib.hid (HEY.out.below hb)
                replace HZ := Lib.hid (RowN.below HZ.out hb)
                replace HEZ := Lib.hid (HEZ.out.below hb)
                replace HV := Lib.hid (RowN.below HV.out hb)
                replace HEV := Lib.hid (HEV.out.below hb)
                replace HL9 := Lib.hid (HL9.out.below hb)
                replace HP := Lib.hid (RowN.below HP.out hb)
                replace HL11 := Lib.hid (HL11.out.below hb)
                replace HQ := Lib.hid (RowN.below HQ.out hb)
                clear hb
                go_wp2
                go_ret
                exact ⟨by first | rfl | simp, HS14.out.below⟩
            · have hX0 := tw_ok (b := bot) hAB.1 hAB.2 (by have := two_len A B bot; omega)
              have H1 : Hid (∀ w, EtLaid w → Ents w a1 c1 A → Ents w a2 c2 B → Calls Tryz.prog 9 #[.slice a1 A.length c1, .slice a2 B.length c2, .bool bot] w fun e w' => ∃ a' c' er, e = .returned (.tuple #[.slice a' (two15 A B bot).length c', er]) ∧ Ents w' a' c' (two15 A B bot) ∧ Er w' 0 er ∧ Below w.heap.size w w') := fun w h1 h2 h3 => by
                have := L2 A a1 c1 B a2 c2 bot w h1 h2 h3 HSMA.out HSMB.out
                rwa [hX0] at this
              have H2 : Hid (∀ w, EtLaid w → Ents w a2 c2 B → Ents w a3 c3 C → Calls Tryz.prog 9 #[.slice a2 B.length c2, .slice a3 C.length c3, .bool false] w fun e w' => ∃ a' c' er, e = .returned (.tuple #[.slice a' (List.length (α := Ent) []) c', er]) ∧ Ents w' a' c' [] ∧ Er w' 16 er ∧ Below w.heap.size w w') := fun w h1 h2 h3 => by
                have := L2 B a2 c2 C a3 c3 false w h1 h2 h3 HSMB.out HSMC.out
                rwa [tw_bad (fun h => hrC h.2)] at this
              clear hX0
              clear hrC hAB hn
              go_enter Tryz.func4, Tryz.ntmps4
              go_wp2_with fail
              refine (awake15 L2 _ HS0.out.et).mono ?_
              rintro e w1 ⟨rfl, hb⟩
              have HS1 := Lib.hid (HS0.out.next hb)
              replace HA := Lib.hid (RowN.below HA.out hb)
              replace HB := Lib.hid (RowN.below HB.out hb)
              replace HC := Lib.hid (RowN.below HC.out hb)
              clear hb
              go_wp2_with fail
              refine (size9 A a1 c1 _ HA.out).mono ?_
              rintro e w9 ⟨rfl, rfl⟩
              rw [hF1]
              go_wp2_with fail
              refine (size9 B a2 c2 _ HB.out).mono ?_
              rintro e w9 ⟨rfl, rfl⟩
              rw [hF2]
              go_wp2_with fail
              refine (size9 C a3 c3 _ HC.out).mono ?_
              rintro e w9 ⟨rfl, rfl⟩
              rw [hF3]
              go_wp2_with fail
              refine (H1.out _ HS1.out.et HA.out HB.out).mono ?_
              rintro e w2 ⟨aX, cX, eX, rfl, h9, e9, hb⟩
              have HX := Lib.hid h9
              have HEX := Lib.hid e9
              clear h9 e9
              have HS2 := Lib.hid (HS1.out.next hb)
              replace HA := Lib.hid (RowN.below HA.out hb)
              replace HB := Lib.hid (RowN.below HB.out hb)
              replace HC := Lib.hid (RowN.below HC.out hb)
              clear hb
              go_wp2_with fail
              refine (H2.out _ HS2.out.et HB.out HC.out).mono ?_
              rintro e w3 ⟨aY, cY, eY, rfl, h9, e9, hb⟩
              have HY := Lib.hid h9
              have HEY := Lib.hid e9
              clear h9 e9
              have HS3 := Lib.hid (HS2.out.next hb)
              replace HA := Lib.hid (RowN.below HA.out hb)
              replace HB := Lib.hid (RowN.below HB.out hb)
              replace HC := Lib.hid (RowN.below HC.out hb)
              replace HX := Lib.hid (RowN.below HX.out hb)
              replace HEX := Lib.hid (HEX.out.below hb)
              clear hb
              go_wp2_with fail
              refine (code_er _ _ _ HEX.out HS3.out.et).mono ?_
              rintro e w4 ⟨rfl, hb⟩
              have HS4 := Lib.hid (HS3.out.next hb)
              replace HA := Lib.hid (RowN.below HA.out hb)
              replace HB := Lib.hid (RowN.below HB.out hb)
              replace HC := Lib.hid (RowN.below HC.out hb)
              replace HX := Lib.hid (RowN.below HX.out hb)
              replace HEX := Lib.hid (HEX.out.below hb)
              replace HY := Lib.hid (RowN.below HY.out hb)
              replace HEY := Lib.hid (HEY.out.below hb)
              clear hb
              go_wp2_with fail
              refine (code_er _ _ _ HEY.out HS4.out.et).mono ?_
              rintro e w5 ⟨rfl, hb⟩
              have HS5 := Lib.hid (HS4.out.next hb)
              replace HA := Lib.hid (RowN.below HA.out hb)
              replace HB := Lib.hid (RowN.below HB.out hb)
              replace HC := Lib.hid (RowN.below HC.out hb)
              replace HX := Lib.hid (RowN.below HX.out hb)
              replace HEX := Lib.hid (HEX.out.below hb)
              replace HY := Lib.hid (RowN.below HY.out hb)
              replace HEY := Lib.hid (HEY.out.below hb)
              clear hb
              go_wp2_with fail
              refine (code_er _ _ _ HEX.out HS5.out.et).mono ?_
              rintro e w6 ⟨rfl, hb⟩
              have HS6 := Lib.hid (HS5.out.next hb)
              replace HA := Lib.hid (RowN.below HA.out hb)
              replace HB := Lib.hid (RowN.below HB.out hb)
              replace HC := Lib.hid (RowN.below HC.out hb)
              replace HX := Lib.hid (RowN.below HX.out hb)
              replace HEX := Lib.hid (HEX.out.below hb)
              replace HY := Lib.hid (RowN.below HY.out hb)
              replace HEY := Lib.hid (HEY.out.below hb)
              clear hb
              go_wp2_with fail
              refine (code_er _ _ _ HEY.out HS6.out.et).mono ?_
              rintro e w7 ⟨rfl, hb⟩
              have HS7 := Lib.hid (HS6.out.next hb)
              replace HA := Lib.hid (RowN.below HA.out hb)
              replace HB := Lib.hid (RowN.below HB.out hb)
              replace HC := Lib.hid (RowN.below HC.out hb)
              replace HX := Lib.hid (RowN.below HX.out hb)
              replace HEX := Lib.hid (HEX.out.below hb)
              replace HY := Lib.hid (RowN.below HY.out hb)
              replace HEY := Lib.hid (HEY.out.below hb)
              clear hb
              go_wp2
              go_ret
              exact ⟨by first | rfl | simp, HS7.out.below⟩
          · have H1 : Hid (∀ w, EtLaid w → Ents w a1 c1 A → Ents w a2 c2 B → Calls Tryz.prog 9 #[.slice a1 A.length c1, .slice a2 B.length c2, .bool bot] w fun e w' => ∃ a' c' er, e = .returned (.tuple #[.slice a' (List.length (α := Ent) []) c', er]) ∧ Ents w' a' c' [] ∧ Er w' 16 er ∧ Below w.heap.size w w') := fun w h1 h2 h3 => by
              have := L2 A a1 c1 B a2 c2 bot w h1 h2 h3 HSMA.out HSMB.out
              rwa [tw_bad hAB] at this
            have H2 := Lib.hid (fun w h1 h2 h3 => L2 B a2 c2 C a3 c3 false w h1 h2 h3 HSMB.out HSMC.out)
            clear hAB hn
            go_enter Tryz.func4, Tryz.ntmps4
            go_wp2_with fail
            refine (awake15 L2 _ HS0.out.et).mono ?_
            rintro e w1 ⟨rfl, hb⟩
            have HS1 := Lib.hid (HS0.out.next hb)
            replace HA := Lib.hid (RowN.below HA.out hb)
            replace HB := Lib.hid (RowN.below HB.out hb)
            replace HC := Lib.hid (RowN.below HC.out hb)
            clear hb
            go_wp2_with fail
            refine (size9 A a1 c1 _ HA.out).mono ?_
            rintro e w9 ⟨rfl, rfl⟩
            rw [hF1]
            go_wp2_with fail
            refine (size9 B a2 c2 _ HB.out).mono ?_
            rintro e w9 ⟨rfl, rfl⟩
            rw [hF2]
            go_wp2_with fail
            refine (size9 C a3 c3 _ HC.out).mono ?_
            rintro e w9 ⟨rfl, rfl⟩
            rw [hF3]
            go_wp2_with fail
            refine (H1.out _ HS1.out.et HA.out HB.out).mono ?_
            rintro e w2 ⟨aX, cX, eX, rfl, h9, e9, hb⟩
            have HX := Lib.hid h9
            have HEX := Lib.hid e9
            clear h9 e9
            have HS2 := Lib.hid (HS1.out.next hb)
            replace HA := Lib.hid (RowN.below HA.out hb)
            replace HB := Lib.hid (RowN.below HB.out hb)
            replace HC := Lib.hid (RowN.below HC.out hb)
            clear hb
            go_wp2_with fail
            refine (H2.out _ HS2.out.et HB.out HC.out).mono ?_
            rintro e w3 ⟨aY, cY, eY, rfl, h9, e9, hb⟩
            have HY := Lib.hid h9
            have HEY := Lib.hid e9
            clear h9 e9
            have HS3 := Lib.hid (HS2.out.next hb)
            replace HA := Lib.hid (RowN.below HA.out hb)
            replace HB := Lib.hid (RowN.below HB.out hb)
            replace HC := Lib.hid (RowN.below HC.out hb)
            replace HX := Lib.hid (RowN.below HX.out hb)
            replace HEX := Lib.hid (HEX.out.below hb)
            clear hb
            go_wp2_with fail
            refine (code_er _ _ _ HEX.out HS3.out.et).mono ?_
            rintro e w4 ⟨rfl, hb⟩
            have HS4 := Lib.hid (HS3.out.next hb)
            replace HA := Lib.hid (RowN.below HA.out hb)
            replace HB := Lib.hid (RowN.below HB.out hb)
            replace HC := Lib.hid (RowN.below HC.out hb)
            replace HX := Lib.hid (RowN.below HX.out hb)
            replace HEX := Lib.hid (HEX.out.below hb)
            replace HY := Lib.hid (RowN.below HY.out hb)
            replace HEY := Lib.hid (HEY.out.below hb)
            clear hb
            go_wp2_with fail
            refine (code_er _ _ _ HEX.out HS4.out.et).mono ?_
            rintro e w5 ⟨rfl, hb⟩
            have HS5 := Lib.hid (HS4.out.next hb)
            replace HA := Lib.hid (RowN.below HA.out hb)
            replace HB := Lib.hid (RowN.below HB.out hb)
            replace HC := Lib.hid (RowN.below HC.out hb)
            replace HX := Lib.hid (RowN.below HX.out hb)
            replace HEX := Lib.hid (HEX.out.below hb)
            replace HY := Lib.hid (RowN.below HY.out hb)
            replace HEY := Lib.hid (HEY.out.below hb)
            clear hb
            go_wp2
            go_ret
            exact ⟨by first | rfl | simp, HS5.out.below⟩
      · have hF3 : (if SizeOK C then (1 : Int) else 0) = 0 := if_neg hz3
        clear hz1 hz2 hz3
        go_enter Tryz.func4, Tryz.ntmps4
        go_wp2_with fail
        refine (awake15 L2 _ HS0.out.et).mono ?_
        rintro e w1 ⟨rfl, hb⟩
        have HS1 := Lib.hid (HS0.out.next hb)
        replace HA := Lib.hid (RowN.below HA.out hb)
        replace HB := Lib.hid (RowN.below HB.out hb)
        replace HC := Lib.hid (RowN.below HC.out hb)
        clear hb
        go_wp2_with fail
        refine (size9 A a1 c1 _ HA.out).mono ?_
        rintro e w9 ⟨rfl, rfl⟩
        rw [hF1]
        go_wp2_with fail
        refine (size9 B a2 c2 _ HB.out).mono ?_
        rintro e w9 ⟨rfl, rfl⟩
        rw [hF2]
        go_wp2_with fail
        refine (size9 C a3 c3 _ HC.out).mono ?_
        rintro e w9 ⟨rfl, rfl⟩
        rw [hF3]
        go_wp2_with fail
        refine (awake15 L2 _ HS1.out.et).mono ?_
        rintro e w2 ⟨rfl, hb⟩
        have HS2 := Lib.hid (HS1.out.next hb)
        replace HA := Lib.hid (RowN.below HA.out hb)
        replace HB := Lib.hid (RowN.below HB.out hb)
        replace HC := Lib.hid (RowN.below HC.out hb)
        clear hb
        go_wp2
        go_ret
        exact ⟨by first | rfl | simp, HS2.out.below⟩
    · have hF2 : (if SizeOK B then (1 : Int) else 0) = 0 := if_neg hz2
      clear hz1 hz2
      go_enter Tryz.func4, Tryz.ntmps4
      go_wp2_with fail
      refine (awake15 L2 _ HS0.out.et).mono ?_
      rintro e w1 ⟨rfl, hb⟩
      have HS1 := Lib.hid (HS0.out.next hb)
      replace HA := Lib.hid (RowN.below HA.out hb)
      replace HB := Lib.hid (RowN.below HB.out hb)
      replace HC := Lib.hid (RowN.below HC.out hb)
      clear hb
      go_wp2_with fail
      refine (size9 A a1 c1 _ HA.out).mono ?_
      rintro e w9 ⟨rfl, rfl⟩
      rw [hF1]
      go_wp2_with fail
      refine (size9 B a2 c2 _ HB.out).mono ?_
      rintro e w9 ⟨rfl, rfl⟩
      rw [hF2]
      go_wp2_with fail
      refine (awake15 L2 _ HS1.out.et).mono ?_
      rintro e w2 ⟨rfl, hb⟩
      have HS2 := Lib.hid (HS1.out.next hb)
      replace HA := Lib.hid (RowN.below HA.out hb)
      replace HB := Lib.hid (RowN.below HB.out hb)
      replace HC := Lib.hid (RowN.below HC.out hb)
      clear hb
      go_wp2
      go_ret
      exact ⟨by first | rfl | simp, HS2.out.below⟩
  · have hF1 : (if SizeOK A then (1 : Int) else 0) = 0 := if_neg hz1
    clear hz1
    go_enter Tryz.func4, Tryz.ntmps4
    go_wp2_with fail
    refine (awake15 L2 _ HS0.out.et).mono ?_
    rintro e w1 ⟨rfl, hb⟩
    have HS1 := Lib.hid (HS0.out.next hb)
    replace HA := Lib.hid (RowN.below HA.out hb)
    replace HB := Lib.hid (RowN.below HB.out hb)
    replace HC := Lib.hid (RowN.below HC.out hb)
    clear hb
    go_wp2_with fail
    refine (size9 A a1 c1 _ HA.out).mono ?_
    rintro e w9 ⟨rfl, rfl⟩
    rw [hF1]
    go_wp2_with fail
    refine (awake15 L2 _ HS1.out.et).mono ?_
    rintro e w2 ⟨rfl, hb⟩
    have HS2 := Lib.hid (HS1.out.next hb)
    replace HA := Lib.hid (RowN.below HA.out hb)
    replace HB := Lib.hid (RowN.below HB.out hb)
    replace HC := Lib.hid (RowN.below HC.out hb)
    clear hb
    go_wp2
    go_ret
    exact ⟨by first | rfl | simp, HS2.out.below⟩
end Go.Proofs.YtkclclhmeenncaaGreatDoor
