/-
  The law MergeShows walked over Two15, Look12, Stack15: for every two stacks, two layers and text it returns true and changes nothing that was there. Conditions: packages merge, look and fold answer as these say; stacks and layers lie in memory; errorType holds error's type.
-/
import Derived.Test.YtkclclhmeenncaaGreatDoorS15Awake
import Derived.Test.YtkclclhmeenncaaGreatDoorS15Laws
import Derived.Test.YtkclclhmeenncaaGreatDoorS12Few
import Derived.Test.YtkclclhmeenncaaGreatDoorPl
import Derived.Test.YtkclclhmeenncaaGreatDoorPc
import Derived.Test.YtkclclhmeenncaaGreatDoorStkTwo
import Derived.Deep.LoopGhost
namespace Go.Proofs.YtkclclhmeenncaaGreatDoor
open Go.RowKit

attribute [local go_sem ↓] eqw_en new_en
attribute [local go_sem] isEv_agg evEq_agg eta_ent
set_option maxRecDepth 10000 in
set_option maxHeartbeats 16000000 in
theorem lawShows15 (L2 : Two15) (LK : Look12) (LS : Stack15) (S : List (List Ent)) (low high : List Ent) (T : List (List Ent)) (p : ByteArray) (a1 : Option Addr) (c1 : Nat) (a2 : Option Addr) (c2 : Nat) (a3 : Option Addr) (c3 : Nat) (a4 : Option Addr) (c4 : Nat) (W : World) (hg : EtLaid W) (k1 : Stk W a1 c1 S) (k2 : Ents W a2 c2 low) (k3 : Ents W a3 c3 high) (k4 : Stk W a4 c4 T) :
    Calls Tryz.prog 3 #[.slice a1 S.length c1, .slice a2 low.length c2, .slice a3 high.length c3, .slice a4 T.length c4, .string p] W fun e w' => e = .returned (.bool true) ∧ Below W.heap.size W w' := by
  have HS0 := Lib.hid (st_self hg)
  have HK := Lib.hid k1
  have HA := Lib.hid k2
  have HB := Lib.hid k3
  have HT := Lib.hid k4
  clear hg k1 k2 k3 k4
  by_cases hf1 : FewOK S
  · have hF1 : (if FewOK S then (1 : Int) else 0) = 1 := if_pos hf1
    by_cases hf2 : FewOK T
    · have hF2 : (if FewOK T then (1 : Int) else 0) = 1 := if_pos hf2
      by_cases hf3 : SizeOK low
      · have hF3 : (if SizeOK low then (1 : Int) else 0) = 1 := if_pos hf3
        by_cases hf4 : SizeOK high
        · have hF4 : (if SizeOK high then (1 : Int) else 0) = 1 := if_pos hf4
          by_cases hp : (100 : Int) < (p.size : Int)
          · clear hf1 hf2 hf3 hf4
            go_enter Tryz.func3, Tryz.ntmps3
            go_wp2_with fail
            refine (awake15 L2 _ HS0.out.et).mono ?_
            rintro e w1 ⟨rfl, hb⟩
            have HS1 := Lib.hid (HS0.out.next hb)
            replace HK := Lib.hid (HK.out.below hb)
            replace HT := Lib.hid (HT.out.below hb)
            replace HA := Lib.hid (RowN.below HA.out hb)
            replace HB := Lib.hid (RowN.below HB.out hb)
            clear hb
            go_wp2_with fail
            refine (few10 S a1 c1 _ HK.out).mono ?_
            rintro e w9 ⟨rfl, rfl⟩
            rw [hF1]
            go_wp2_with fail
            refine (few10 T a4 c4 _ HT.out).mono ?_
            rintro e w9 ⟨rfl, rfl⟩
            rw [hF2]
            go_wp2_with fail
            refine (size9 low a2 c2 _ HA.out).mono ?_
            rintro e w9 ⟨rfl, rfl⟩
            rw [hF3]
            go_wp2_with fail
            refine (size9 high a3 c3 _ HB.out).mono ?_
            rintro e w9 ⟨rfl, rfl⟩
            rw [hF4]
            go_wp2_with fail
            refine (awake15 L2 _ HS1.out.et).mono ?_
            rintro e w2 ⟨rfl, hb⟩
            have HS2 := Lib.hid (HS1.out.next hb)
            replace HK := Lib.hid (HK.out.below hb)
            replace HT := Lib.hid (HT.out.below hb)
            replace HA := Lib.hid (RowN.below HA.out hb)
            replace HB := Lib.hid (RowN.below HB.out hb)
            clear hb
            go_wp2
            go_ret
            exact ⟨by first | rfl | simp, HS2.out.below⟩
          · have hwl : IntKind.i64.wrap ((S.length : Int) + (T.length : Int)) = (S.length : Int) + (T.length : Int) := IntWalk.i64_in _ (by have := hf1.1; have := hf2.1; omega)
            by_cases h7 : (7 : Int) < (S.length : Int) + (T.length : Int)
            · clear hf1 hf2 hf3 hf4
              go_enter Tryz.func3, Tryz.ntmps3
              go_wp2_with fail
              refine (awake15 L2 _ HS0.out.et).mono ?_
              rintro e w1 ⟨rfl, hb⟩
              have HS1 := Lib.hid (HS0.out.next hb)
              replace HK := Lib.hid (HK.out.below hb)
              replace HT := Lib.hid (HT.out.below hb)
              replace HA := Lib.hid (RowN.below HA.out hb)
              replace HB := Lib.hid (RowN.below HB.out hb)
              clear hb
              go_wp2_with fail
              refine (few10 S a1 c1 _ HK.out).mono ?_
              rintro e w9 ⟨rfl, rfl⟩
              rw [hF1]
              go_wp2_with fail
              refine (few10 T a4 c4 _ HT.out).mono ?_
              rintro e w9 ⟨rfl, rfl⟩
              rw [hF2]
              go_wp2_with fail
              refine (size9 low a2 c2 _ HA.out).mono ?_
              rintro e w9 ⟨rfl, rfl⟩
              rw [hF3]
              go_wp2_with fail
              refine (size9 high a3 c3 _ HB.out).mono ?_
              rintro e w9 ⟨rfl, rfl⟩
              rw [hF4]
              go_wp2_with fail
              refine (awake15 L2 _ HS1.out.et).mono ?_
              rintro e w2 ⟨rfl, hb⟩
              have HS2 := Lib.hid (HS1.out.next hb)
              replace HK := Lib.hid (HK.out.below hb)
              replace HT := Lib.hid (HT.out.below hb)
              replace HA := Lib.hid (RowN.below HA.out hb)
              replace HB := Lib.hid (RowN.below HB.out hb)
              clear hb
              go_wp2
              go_ret
              exact ⟨by first | rfl | simp, HS2.out.below⟩
            · have H7 := Lib.hid (show S.length + T.length ≤ 7 by omega)
              have HP := Lib.hid (show p.size ≤ 100 by omega)
              have HSS := Lib.hid (few_sm12 hf1)
              have HST := Lib.hid (few_sm12 hf2)
              have HML1 := Lib.hid (sm_size hf3)
              have HMH1 := Lib.hid (sm_size hf4)
              clear hf1 hf2 hf3 hf4
              obtain ⟨bt, hbt⟩ : ∃ bt, ((S.length : Int) == 0) = bt := ⟨_, rfl⟩
              have HBT := Lib.hid (show bt = true ↔ S = [] by
                rw [← hbt, beq_iff_eq]
                constructor
                · intro h
                  exact List.length_eq_zero_iff.1 (by omega)
                · rintro rfl
                  rfl)
              obtain ⟨ONE, hone⟩ : ∃ l, (twV low high bt).2 = l := ⟨_, rfl⟩
              obtain ⟨n0, hn0⟩ : ∃ n, (twV low high bt).1 = n := ⟨_, rfl⟩
              have H2 : Hid (∀ w, EtLaid w → Ents w a2 c2 low → Ents w a3 c3 high → Calls Tryz.prog 9 #[.slice a2 low.length c2, .slice a3 high.length c3, .bool bt] w fun e w' => ∃ a' c' er, e = .returned (.tuple #[.slice a' ONE.length c', er]) ∧ Ents w' a' c' ONE ∧ Er w' n0 er ∧ Below w.heap.size w w') := fun w h1 h2 h3 => by
                have := L2 low a2 c2 high a3 c3 bt w h1 h2 h3 HML1.out HMH1.out
                rwa [hone, hn0] at this
              have hll : IntKind.i64.wrap ((low.length : Int) + (high.length : Int)) = (low.length : Int) + (high.length : Int) := IntWalk.i64_in _ (by have := HML1.out.1; have := HMH1.out.1; omega)
              rcases tw_cases low high bt with ⟨_, ht⟩ | ⟨_, _, h64, ht⟩ | ⟨r1, r2, h64, ht⟩
              · obtain rfl : (16 : Int) = n0 := by rw [← hn0, ht]
                clear ht hn0 hone
                go_enter Tryz.func3, Tryz.ntmps3
                go_wp2_with fail
                refine (awake15 L2 _ HS0.out.et).mono ?_
                rintro e w1 ⟨rfl, hb⟩
                have HS1 := Lib.hid (HS0.out.next hb)
                replace HK := Lib.hid (HK.out.below hb)
                replace HT := Lib.hid (HT.out.below hb)
                replace HA := Lib.hid (RowN.below HA.out hb)
                replace HB := Lib.hid (RowN.below HB.out hb)
                clear hb
                go_wp2_with fail
                refine (few10 S a1 c1 _ HK.out).mono ?_
                rintro e w9 ⟨rfl, rfl⟩
                rw [hF1]
                go_wp2_with fail
                refine (few10 T a4 c4 _ HT.out).mono ?_
                rintro e w9 ⟨rfl, rfl⟩
                rw [hF2]
                go_wp2_with fail
                refine (size9 low a2 c2 _ HA.out).mono ?_
                rintro e w9 ⟨rfl, rfl⟩
                rw [hF3]
                go_wp2_with fail
                refine (size9 high a3 c3 _ HB.out).mono ?_
                rintro e w9 ⟨rfl, rfl⟩
                rw [hF4]
                go_wp2_with fail
                refine (H2.out _ HS1.out.et HA.out HB.out).mono ?_
                rintro e w2 ⟨aX, cX, eX, rfl, h9, e9, hb⟩
                have HX := Lib.hid h9
                have HE := Lib.hid e9
                clear h9 e9
                have HS2 := Lib.hid (HS1.out.next hb)
                replace HK := Lib.hid (HK.out.below hb)
                replace HT := Lib.hid (HT.out.below hb)
                replace HA := Lib.hid (RowN.below HA.out hb)
                replace HB := Lib.hid (RowN.below HB.out hb)
                clear hb
                go_wp2_with fail
                refine (code_er _ _ _ HE.out HS2.out.et).mono ?_
                rintro e w3 ⟨rfl, hb⟩
                have HS3 := Lib.hid (HS2.out.next hb)
                replace HK := Lib.hid (HK.out.below hb)
                replace HT := Lib.hid (HT.out.below hb)
                replace HA := Lib.hid (RowN.below HA.out hb)
                replace HB := Lib.hid (RowN.below HB.out hb)
                replace HX := Lib.hid (RowN.below HX.out hb)
                replace HE := Lib.hid (HE.out.below hb)
                clear hb
                go_wp2_with fail
                refine (code_er _ _ _ HE.out HS3.out.et).mono ?_
                rintro e w4 ⟨rfl, hb⟩
                have HS4 := Lib.hid (HS3.out.next hb)
                replace HK := Lib.hid (HK.out.below hb)
                replace HT := Lib.hid (HT.out.below hb)
                replace HA := Lib.hid (RowN.below HA.out hb)
                replace HB := Lib.hid (RowN.below HB.out hb)
                replace HX := Lib.hid (RowN.below HX.out hb)
                replace HE := Lib.hid (HE.out.below hb)
                clear hb
                go_wp2
                go_ret
                exact ⟨by first | rfl | simp, HS4.out.below⟩
              · obtain rfl : (9 : Int) = n0 := by rw [← hn0, ht]
                have g64 : (64 : Int) < (low.length : Int) + (high.length : Int) := by
                  have := two_len low high bt
                  omega
                clear ht hn0 hone h64
                go_enter Tryz.func3, Tryz.ntmps3
                go_wp2_with fail
                refine (awake15 L2 _ HS0.out.et).mono ?_
                rintro e w1 ⟨rfl, hb⟩
                have HS1 := Lib.hid (HS0.out.next hb)
                replace HK := Lib.hid (HK.out.below hb)
                replace HT := Lib.hid (HT.out.below hb)
                replace HA := Lib.hid (RowN.below HA.out hb)
                replace HB := Lib.hid (RowN.below HB.out hb)
                clear hb
                go_wp2_with fail
                refine (few10 S a1 c1 _ HK.out).mono ?_
                rintro e w9 ⟨rfl, rfl⟩
                rw [hF1]
                go_wp2_with fail
                refine (few10 T a4 c4 _ HT.out).mono ?_
                rintro e w9 ⟨rfl, rfl⟩
                rw [hF2]
                go_wp2_with fail
                refine (size9 low a2 c2 _ HA.out).mono ?_
                rintro e w9 ⟨rfl, rfl⟩
                rw [hF3]
                go_wp2_with fail
                refine (size9 high a3 c3 _ HB.out).mono ?_
                rintro e w9 ⟨rfl, rfl⟩
                rw [hF4]
                go_wp2_with fail
                refine (H2.out _ HS1.out.et HA.out HB.out).mono ?_
                rintro e w2 ⟨aX, cX, eX, rfl, h9, e9, hb⟩
                have HX := Lib.hid h9
                have HE := Lib.hid e9
                clear h9 e9
                have HS2 := Lib.hid (HS1.out.next hb)
                replace HK := Lib.hid (HK.out.below hb)
                replace HT := Lib.hid (HT.out.below hb)
                replace HA := Lib.hid (RowN.below HA.out hb)
                replace HB := Lib.hid (RowN.below HB.out hb)
                clear hb
                go_wp2_with fail
                refine (code_er _ _ _ HE.out HS2.out.et).mono ?_
                rintro e w3 ⟨rfl, hb⟩
                have HS3 := Lib.hid (HS2.out.next hb)
                replace HK := Lib.hid (HK.out.below hb)
                replace HT := Lib.hid (HT.out.below hb)
                replace HA := Lib.hid (RowN.below HA.out hb)
                replace HB := Lib.hid (RowN.below HB.out hb)
                replace HX := Lib.hid (RowN.below HX.out hb)
                replace HE := Lib.hid (HE.out.below hb)
                clear hb
                go_wp2_with fail
                refine (code_er _ _ _ HE.out HS3.out.et).mono ?_
                rintro e w4 ⟨rfl, hb⟩
                have HS4 := Lib.hid (HS3.out.next hb)
                replace HK := Lib.hid (HK.out.below hb)
                replace HT := Lib.hid (HT.out.below hb)
                replace HA := Lib.hid (RowN.below HA.out hb)
                replace HB := Lib.hid (RowN.below HB.out hb)
                replace HX := Lib.hid (RowN.below HX.out hb)
                replace HE := Lib.hid (HE.out.below hb)
                clear hb
                go_wp2_with fail
                refine (code_er _ _ _ HE.out HS4.out.et).mono ?_
                rintro e w5 ⟨rfl, hb⟩
                have HS5 := Lib.hid (HS4.out.next hb)
                replace HK := Lib.hid (HK.out.below hb)
                replace HT := Lib.hid (HT.out.below hb)
                replace HA := Lib.hid (RowN.below HA.out hb)
                replace HB := Lib.hid (RowN.below HB.out hb)
                replace HX := Lib.hid (RowN.below HX.out hb)
                replace HE := Lib.hid (HE.out.below hb)
                clear hb
                go_wp2
                go_ret
                exact ⟨by first | rfl | simp, HS5.out.below⟩
              · obtain rfl : (0 : Int) = n0 := by rw [← hn0, ht]
                have h0 : (twV low high bt).1 = 0 := hn0
                have hsh := shows15 H7.out HBT.out h0 p.data.toList
                have hR1 : RightL ONE := by
                  rw [← hone]
                  have h3 := tw_zero h0
                  rw [h3.2.2.1]
                  exact h3.2.2.2
                rw [hone] at hsh
                obtain ⟨q1, q2, q3⟩ := hsh
                have hsmx : ∀ l ∈ S ++ [low, high] ++ T, Sm l := fun l hl => by
                  rcases List.mem_append.1 hl with hl | hl
                  · rcases List.mem_append.1 hl with hl | hl
                    · exact HSS.out.2 l hl
                    · rcases List.mem_cons.1 hl with rfl | hl
                      · exact HML1.out
                      · rw [List.mem_singleton.1 hl]; exact HMH1.out
                  · exact HST.out.2 l hl
                have hsmy : ∀ l ∈ S ++ [ONE] ++ T, Sm l := fun l hl => by
                  rcases List.mem_append.1 hl with hl | hl
                  · rcases List.mem_append.1 hl with hl | hl
                    · exact HSS.out.2 l hl
                    · rw [List.mem_singleton.1 hl]; exact sm_right hR1
                  · exact HST.out.2 l hl
                have hlx : (S ++ [low, high] ++ T).length ≤ 100 := by have := H7.out; simp; omega
                have hly : (S ++ [ONE] ++ T).length ≤ 100 := by have := H7.out; simp; omega
                have hfl : (fsV (S ++ [low, high] ++ T)).length ≤ maxLen := by
                  unfold fsV
                  split
                  · rename_i hok
                    have h8 := stk_len hok.2
                    have h9 := hok.1
                    unfold maxLen
                    omega
                  · unfold maxLen; simp
                obtain ⟨FS, hFS⟩ : ∃ l, fsV (S ++ [low, high] ++ T) = l := ⟨_, rfl⟩
                obtain ⟨n1, hn1⟩ : ∃ n, (lkV (S ++ [low, high] ++ T) p.data.toList).1 = n := ⟨_, rfl⟩
                obtain ⟨E1, hE1⟩ : ∃ e, (lkV (S ++ [low, high] ++ T) p.data.toList).2.1 = e := ⟨_, rfl⟩
                obtain ⟨f1, hf1⟩ : ∃ f, (lkV (S ++ [low, high] ++ T) p.data.toList).2.2 = f := ⟨_, rfl⟩
                obtain ⟨f2, hf2⟩ : ∃ f, (lkV (S ++ [ONE] ++ T) p.data.toList).2.2 = f := ⟨_, rfl⟩
                rw [hFS] at q1 hfl
                rw [hn1] at q2
                rw [hE1] at q3
                have HML := Lib.hid hfl
                have HATX : Hid (∀ w a c, EtLaid w → Stk w a c (S ++ [low, high] ++ T) → Calls Tryz.prog 11 #[.slice a (S ++ [low, high] ++ T).length c, .string p] w fun e w' => ∃ er, e = .returned (.tuple #[fdnV (E1, f1), er]) ∧ Er w' n1 er ∧ Below w.heap.size w w') := fun w a c h1 h2 => by
                  have := LK _ a c p w h1 h2 hlx hsmx (by have := HP.out; omega)
                  rw [hn1, show (lkV (S ++ [low, high] ++ T) p.data.toList).2 = (E1, f1) from Prod.ext hE1 hf1] at this
                  exact this
                have HATY : Hid (∀ w a c, EtLaid w → Stk w a c (S ++ [ONE] ++ T) → Calls Tryz.prog 11 #[.slice a (S ++ [ONE] ++ T).length c, .string p] w fun e w' => ∃ er, e = .returned (.tuple #[fdnV (E1, f2), er]) ∧ Er w' n1 er ∧ Below w.heap.size w w') := fun w a c h1 h2 => by
                  have := LK _ a c p w h1 h2 hly hsmy (by have := HP.out; omega)
                  rw [← q2, show (lkV (S ++ [ONE] ++ T) p.data.toList).2 = (E1, f2) from Prod.ext q3.symm hf2] at this
                  exact this
                have HLSX : Hid (∀ w a c, EtLaid w → Stk w a c (S ++ [low, high] ++ T) → Calls Tryz.prog 13 #[.slice a (S ++ [low, high] ++ T).length c] w fun e w' => ∃ a' cap', e = .returned (.slice a' FS.length cap') ∧ Ents w' a' cap' FS ∧ Below w.heap.size w w') := fun w a c h1 h2 => by
                  have := LS _ a c w h1 h2 hlx hsmx
                  rw [hFS] at this
                  exact this
                have HLSY : Hid (∀ w a c, EtLaid w → Stk w a c (S ++ [ONE] ++ T) → Calls Tryz.prog 13 #[.slice a (S ++ [ONE] ++ T).length c] w fun e w' => ∃ a' cap', e = .returned (.slice a' FS.length cap') ∧ Ents w' a' cap' FS ∧ Below w.heap.size w w') := fun w a c h1 h2 => by
                  have := LS _ a c w h1 h2 hly hsmy
                  rw [← q1] at this
                  exact this
                clear q1 q2 q3 hFS hn1 hE1 hf1 hf2 hlx hly hsmx hsmy hfl ht hn0 hone h64 r1 r2 h0 hR1
                go_enter Tryz.func3, Tryz.ntmps3
                go_wp2_with fail
                refine (awake15 L2 _ HS0.out.et).mono ?_
                rintro e w1 ⟨rfl, hb⟩
                have HS1 := Lib.hid (HS0.out.next hb)
                replace HK := Lib.hid (HK.out.below hb)
                replace HT := Lib.hid (HT.out.below hb)
                replace HA := Lib.hid (RowN.below HA.out hb)
                replace HB := Lib.hid (RowN.below HB.out hb)
                clear hb
                go_wp2_with fail
                refine (few10 S a1 c1 _ HK.out).mono ?_
                rintro e w9 ⟨rfl, rfl⟩
                rw [hF1]
                go_wp2_with fail
                refine (few10 T a4 c4 _ HT.out).mono ?_
                rintro e w9 ⟨rfl, rfl⟩
                rw [hF2]
                go_wp2_with fail
                refine (size9 low a2 c2 _ HA.out).mono ?_
                rintro e w9 ⟨rfl, rfl⟩
                rw [hF3]
                go_wp2_with fail
                refine (size9 high a3 c3 _ HB.out).mono ?_
                rintro e w9 ⟨rfl, rfl⟩
                rw [hF4]
                go_wp2_with fail
                refine (H2.out _ HS1.out.et HA.out HB.out).mono ?_
                rintro e w2 ⟨aX, cX, eX, rfl, h9, e9, hb⟩
                have HX := Lib.hid h9
                have HE := Lib.hid e9
                clear h9 e9
                have HS2 := Lib.hid (HS1.out.next hb)
                replace HK := Lib.hid (HK.out.below hb)
                replace HT := Lib.hid (HT.out.below hb)
                replace HA := Lib.hid (RowN.below HA.out hb)
                replace HB := Lib.hid (RowN.below HB.out hb)
                clear hb
                go_wp2_with fail
                refine (code_er _ _ _ HE.out HS2.out.et).mono ?_
                rintro e w3 ⟨rfl, hb⟩
                have HS3 := Lib.hid (HS2.out.next hb)
                replace HK := Lib.hid (HK.out.below hb)
                replace HT := Lib.hid (HT.out.below hb)
                replace HA := Lib.hid (RowN.below HA.out hb)
                replace HB := Lib.hid (RowN.below HB.out hb)
                replace HX := Lib.hid (RowN.below HX.out hb)
                replace HE := Lib.hid (HE.out.below hb)
                clear hb
                clear HE
                obtain ⟨wc, hwc⟩ : ∃ w, w = w3 := ⟨_, rfl⟩
                subst hwc
                have hbz : Below wc.heap.size wc (wc.alloc (.cells #[] 23)) := (Below.refl _ _).alloc (Nat.le_refl _) _
                obtain ⟨hsS, HSR⟩ := src_old HK.out hbz
                go_wp2_with (at_builtin; refine Stopped.go ?_)
                unfold Stopped
                refine wl_catS (by rfl) _ _ (by rfl) wc _ [] S (by rfl) (ownS_new wc wc (Nat.le_refl _)) hbz a1 c1 (by rfl) hsS HSR (by have := H7.out; simp; omega) ?_
                intro va wa hoa hba _
                rw [List.nil_append] at hoa
                have HOA := Lib.hid hoa
                have HBA := Lib.hid hba
                clear hbz HSR hoa hba
                have hb2 : Below wc.heap.size wc (wa.alloc (.cells #[.slice a2 low.length c2, .slice a3 high.length c3] 23)) := HBA.out.alloc HBA.out.size _
                go_wp2_with (at_builtin; refine Stopped.go ?_)
                unfold Stopped
                refine wl_catS (by rfl) _ _ (by rfl) wc _ S [low, high] (by rfl) (HOA.out.below ((Below.refl _ _).alloc (Nat.le_refl _) _)) hb2 (some ⟨wa.heap.size, 0, none⟩) 2 (by rfl) _ (src_two HA.out HB.out (cell_of8 (heap_alloc_new _ _) (j := 0) rfl).1 (cell_of8 (heap_alloc_new _ _) (j := 1) rfl).1) (by have := H7.out; simp; omega) ?_
                intro vx wx hox hbx _
                have HOX := Lib.hid hox
                have HBX := Lib.hid hbx
                clear hb2 hox hbx HOA HBA
                have hb3 : Below wc.heap.size wc (wx.alloc (.cells #[] 23)) := HBX.out.alloc HBX.out.size _
                obtain ⟨hsS2, HSR⟩ := src_old HK.out hb3
                go_wp2_with (at_builtin; refine Stopped.go ?_)
                unfold Stopped
                refine wl_cat2 (by rfl) _ _ (by rfl) wc vx _ (S ++ [low, high]) [] S (by rfl) (own2_new HOX.out HBX.out.size) hb3 a1 c1 (by rfl) hsS2 HSR (by have := H7.out; simp; omega) ?_
                intro vy0 wy0 ho0 hb0
                rw [List.nil_append] at ho0
                have HO0 := Lib.hid ho0
                have HB0 := Lib.hid hb0
                clear hb3 HSR ho0 hb0 HOX HBX
                have hb4 : Below wc.heap.size wc (wy0.alloc (.cells #[.slice aX ONE.length cX] 23)) := HB0.out.alloc HB0.out.size _
                go_wp2_with (at_builtin; refine Stopped.go ?_)
                unfold Stopped
                refine wl_cat2 (by rfl) _ _ (by rfl) wc vx _ (S ++ [low, high]) S [ONE] (by rfl) (HO0.out.below ((Below.refl _ _).alloc (Nat.le_refl _) _)) hb4 (some ⟨wy0.heap.size, 0, none⟩) 1 (by rfl) _ (src_one HX.out (cell_of8 (heap_alloc_new _ _) (j := 0) rfl).1) (by have := H7.out; simp; omega) ?_
                intro vy wy hoy hby
                have HOY := Lib.hid hoy
                have HBY := Lib.hid hby
                clear hb4 hoy hby HO0 HB0
                go_wp2
                go_loopg [13, 14, 15] T.length (fun g u v i wx => ∃ k : Nat, i = .int .i64 (k : Int) ∧ k + g = T.length ∧ Hid (Own2 wc wx u (S ++ [low, high] ++ T.take k) v (S ++ [ONE] ++ T.take k)) ∧ Hid (Below wc.heap.size wc wx))
                case atStart => exact ⟨0, rfl, by omega, by simpa [Hid] using HOY.out, HBY.out⟩
                case round =>
                  clear HOY HBY
                  obtain ⟨k, rfl, hk, HO, HB9⟩ := hrel
                  have hw : IntKind.i64.wrap ((k : Int) + 1) = (k : Int) + 1 := IntWalk.i64_in _ (by have := H7.out; omega)
                  by_cases hlt : k < T.length
                  · have hlt' : (k : Int) < (T.length : Int) := by omega
                    obtain ⟨b9, o9, a9, c9, rfl, hc9, hE9⟩ := Stk.at HT.out (Below.refl _ _) hlt
                    have HTK := Lib.hid (take_get T k hlt)
                    obtain ⟨x, hx⟩ : ∃ x, T[k] = x := ⟨_, rfl⟩
                    rw [hx] at hc9 hE9 HTK
                    clear hx
                    have HE9 := Lib.hid hE9
                    have HC9 := Lib.hid hc9
                    have hcr := (HB9.out.cell (World.block_lt_of_cell? wc _ hc9)).trans hc9
                    clear hE9 hc9
                    go_wp2_with (at_builtin; refine Stopped.go ?_)
                    unfold Stopped
                    refine wl_cat1 (by rfl) _ _ (by rfl) wc u13 u14 _ _ [x] (by rfl) (HO.out.below ((Below.refl _ _).alloc (Nat.le_refl _) _)) (HB9.out.alloc HB9.out.size _) (some ⟨wr.heap.size, 0, none⟩) 1 (by rfl) _ (src_one HE9.out (cell_of8 (heap_alloc_new _ _) (j := 0) rfl).1) (by have := H7.out; simp; omega) ?_
                    intro v1 wv1 ho1 hb1
                    have HO1 := Lib.hid ho1
                    have HB1 := Lib.hid hb1
                    clear hcr ho1 hb1
                    have hcr := (HB1.out.cell (World.block_lt_of_cell? wc _ HC9.out)).trans HC9.out
                    go_wp2_with (at_builtin; refine Stopped.go ?_)
                    unfold Stopped
                    refine wl_cat2 (by rfl) _ _ (by rfl) wc v1 u14 _ _ [x] (by rfl) (HO1.out.below ((Below.refl _ _).alloc (Nat.le_refl _) _)) (HB1.out.alloc HB1.out.size _) (some ⟨wv1.heap.size, 0, none⟩) 1 (by rfl) _ (src_one HE9.out (cell_of8 (heap_alloc_new _ _) (j := 0) rfl).1) (by have := H7.out; simp; omega) ?_
                    intro v2 wv2 ho2 hb2
                    have HO2 := Lib.hid (show Own2 wc wv2 v1 (S ++ [low, high] ++ T.take (k + 1)) v2 (S ++ [ONE] ++ T.take (k + 1)) by rw [HTK.out, ← List.append_assoc, ← List.append_assoc]; exact ho2)
                    have HB2 := Lib.hid hb2
                    clear hcr ho2 hb2
                    go_wp2
                    go_roundg (T.length - (k + 1))
                    case measure => omega
                    case rel => exact ⟨k + 1, by simp, by omega, HO2.out, HB2.out⟩
                  · have hlt' : ¬ (k : Int) < (T.length : Int) := by omega
                    have ho := HO.out
                    rw [List.take_of_length_le (by omega)] at ho
                    obtain ⟨ax, cx, rfl, hkx⟩ := stk_of_ownS ho.1 HB9.out
                    obtain ⟨ay, cy, rfl, hky⟩ := stk_of_ownS ho.2.1 HB9.out
                    have HKX := Lib.hid hkx
                    have HKY := Lib.hid hky
                    have HS0 := Lib.hid (HS3.out.next HB9.out)
                    clear ho hkx hky HO
                    obtain ⟨SX, hSX⟩ : ∃ l, S ++ [low, high] ++ T = l := ⟨_, rfl⟩
                    obtain ⟨SY, hSY⟩ : ∃ l, S ++ [ONE] ++ T = l := ⟨_, rfl⟩
                    rw [hSX] at HKX HATX HLSX ⊢
                    rw [hSY] at HKY HATY HLSY ⊢
                    clear hSX hSY
                    obtain ⟨w0, hw0⟩ : ∃ w, w = wr := ⟨_, rfl⟩
                    subst hw0
                    go_wp2_with fail
                    refine (HATX.out _ _ _ HS0.out.et HKX.out).mono ?_
                    rintro e w1 ⟨erx, rfl, e9, hb⟩
                    have Herx := Lib.hid e9
                    clear e9
                    have HS1 := Lib.hid (HS0.out.next hb)
                    replace HKX := Lib.hid (HKX.out.below hb)
                    replace HKY := Lib.hid (HKY.out.below hb)
                    clear hb
                    obtain ⟨Vf, w2, Mf, hVf, hMf, hUf, hv, hu, hb⟩ := fd_box w1 (E1, f1)
                    have v0 := hv.c0
                    have v1 := hv.c1
                    have v2 := hv.c2
                    have v3 := hv.c3
                    have vf0 := hv.f0
                    have vf1 := hv.f1
                    have vf2 := hv.f2
                    have vf3 := hv.f3
                    have Hf := Lib.hid hu
                    clear hv hu
                    have HS2 := Lib.hid (HS1.out.next hb)
                    replace HKX := Lib.hid (HKX.out.below hb)
                    replace HKY := Lib.hid (HKY.out.below hb)
                    replace Herx := Lib.hid (Herx.out.below hb)
                    clear hb
                    go_wp2_with fail
                    refine (HATY.out _ _ _ HS2.out.et HKY.out).mono ?_
                    rintro e w3 ⟨ery, rfl, e9, hb⟩
                    have Hery := Lib.hid e9
                    clear e9
                    replace Hf := Lib.hid (Hf.out.below hb)
                    have HS3 := Lib.hid (HS2.out.next hb)
                    replace HKX := Lib.hid (HKX.out.below hb)
                    replace HKY := Lib.hid (HKY.out.below hb)
                    replace Herx := Lib.hid (Herx.out.below hb)
                    clear hb
                    clear v0 v1 v2 v3 vf0 vf1 vf2 vf3 hVf hMf hUf
                    have qf0 := Hf.out.c0
                    have qf1 := Hf.out.c1
                    have qf2 := Hf.out.c2
                    have qf3 := Hf.out.c3
                    obtain ⟨Vh, w4, Mh, hVh, hMh, hUh, hv, hu, hb⟩ := fd_box w3 (E1, f2)
                    have v0 := hv.c0
                    have v1 := hv.c1
                    have v2 := hv.c2
                    have v3 := hv.c3
                    have vf0 := hv.f0
                    have vf1 := hv.f1
                    have vf2 := hv.f2
                    have vf3 := hv.f3
                    have Hh := Lib.hid hu
                    clear hv hu
                    have HS4 := Lib.hid (HS3.out.next hb)
                    replace HKX := Lib.hid (HKX.out.below hb)
                    replace HKY := Lib.hid (HKY.out.below hb)
                    replace Herx := Lib.hid (Herx.out.below hb)
                    replace Hery := Lib.hid (Hery.out.below hb)
                    replace Hf := Lib.hid (Hf.out.below hb)
                    clear qf0 qf1 qf2 qf3
                    clear hb
                    have qf0 := Hf.out.c0
                    have qf1 := Hf.out.c1
                    have qf2 := Hf.out.c2
                    have qf3 := Hf.out.c3
                    go_wp2_with fail
                    refine (HLSX.out _ _ _ HS4.out.et HKX.out).mono ?_
                    rintro e w5 ⟨aP, cP, rfl, h9, hb⟩
                    have HP9 := Lib.hid h9
                    clear h9
                    replace Hh := Lib.hid (Hh.out.below hb)
                    have HS5 := Lib.hid (HS4.out.next hb)
                    replace HKX := Lib.hid (HKX.out.below hb)
                    replace HKY := Lib.hid (HKY.out.below hb)
                    replace Herx := Lib.hid (Herx.out.below hb)
                    replace Hery := Lib.hid (Hery.out.below hb)
                    replace Hf := Lib.hid (Hf.out.below hb)
                    clear qf0 qf1 qf2 qf3
                    clear hb
                    have qf0 := Hf.out.c0
                    have qf1 := Hf.out.c1
                    have qf2 := Hf.out.c2
                    have qf3 := Hf.out.c3
                    clear v0 v1 v2 v3 vf0 vf1 vf2 vf3 hVh hMh hUh
                    have qh0 := Hh.out.c0
                    have qh1 := Hh.out.c1
                    have qh2 := Hh.out.c2
                    have qh3 := Hh.out.c3
                    go_wp2_with fail
                    refine (HLSY.out _ _ _ HS5.out.et HKY.out).mono ?_
                    rintro e w6 ⟨aQ, cQ, rfl, h9, hb⟩
                    have HQ9 := Lib.hid h9
                    clear h9
                    have HS6 := Lib.hid (HS5.out.next hb)
                    replace HKX := Lib.hid (HKX.out.below hb)
                    replace HKY := Lib.hid (HKY.out.below hb)
                    replace Herx := Lib.hid (Herx.out.below hb)
                    replace Hery := Lib.hid (Hery.out.below hb)
                    replace Hf := Lib.hid (Hf.out.below hb)
                    replace Hh := Lib.hid (Hh.out.below hb)
                    replace HP9 := Lib.hid (RowN.below HP9.out hb)
                    clear qf0 qf1 qf2 qf3
                    clear qh0 qh1 qh2 qh3
                    clear hb
                    have qf0 := Hf.out.c0
                    have qf1 := Hf.out.c1
                    have qf2 := Hf.out.c2
                    have qf3 := Hf.out.c3
                    have qh0 := Hh.out.c0
                    have qh1 := Hh.out.c1
                    have qh2 := Hh.out.c2
                    have qh3 := Hh.out.c3
                    go_wp2_with fail
                    refine (same9 _ _ _ _ _ _ _ HP9.out HQ9.out HML.out).mono ?_
                    rintro e w7 ⟨rfl, hb⟩
                    rw [if_pos rfl]
                    have HS7 := Lib.hid (HS6.out.next hb)
                    replace HKX := Lib.hid (HKX.out.below hb)
                    replace HKY := Lib.hid (HKY.out.below hb)
                    replace Herx := Lib.hid (Herx.out.below hb)
                    replace Hery := Lib.hid (Hery.out.below hb)
                    replace Hf := Lib.hid (Hf.out.below hb)
                    replace Hh := Lib.hid (Hh.out.below hb)
                    replace HP9 := Lib.hid (RowN.below HP9.out hb)
                    replace HQ9 := Lib.hid (RowN.below HQ9.out hb)
                    clear qf0 qf1 qf2 qf3
                    clear qh0 qh1 qh2 qh3
                    clear hb
                    have qf0 := Hf.out.c0
                    have qf1 := Hf.out.c1
                    have qf2 := Hf.out.c2
                    have qf3 := Hf.out.c3
                    have qh0 := Hh.out.c0
                    have qh1 := Hh.out.c1
                    have qh2 := Hh.out.c2
                    have qh3 := Hh.out.c3
                    go_wp2_with fail
                    refine (code_er _ _ _ Herx.out HS7.out.et).mono ?_
                    rintro e w8 ⟨rfl, hb⟩
                    have HS8 := Lib.hid (HS7.out.next hb)
                    replace HKX := Lib.hid (HKX.out.below hb)
                    replace HKY := Lib.hid (HKY.out.below hb)
                    replace Herx := Lib.hid (Herx.out.below hb)
                    replace Hery := Lib.hid (Hery.out.below hb)
                    replace Hf := Lib.hid (Hf.out.below hb)
                    replace Hh := Lib.hid (Hh.out.below hb)
                    replace HP9 := Lib.hid (RowN.below HP9.out hb)
                    replace HQ9 := Lib.hid (RowN.below HQ9.out hb)
                    clear qf0 qf1 qf2 qf3
                    clear qh0 qh1 qh2 qh3
                    clear hb
                    have qf0 := Hf.out.c0
                    have qf1 := Hf.out.c1
                    have qf2 := Hf.out.c2
                    have qf3 := Hf.out.c3
                    have qh0 := Hh.out.c0
                    have qh1 := Hh.out.c1
                    have qh2 := Hh.out.c2
                    have qh3 := Hh.out.c3
                    go_wp2_with fail
                    refine (code_er _ _ _ Hery.out HS8.out.et).mono ?_
                    rintro e w9 ⟨rfl, hb⟩
                    have HS9 := Lib.hid (HS8.out.next hb)
                    replace HKX := Lib.hid (HKX.out.below hb)
                    replace HKY := Lib.hid (HKY.out.below hb)
                    replace Herx := Lib.hid (Herx.out.below hb)
                    replace Hery := Lib.hid (Hery.out.below hb)
                    replace Hf := Lib.hid (Hf.out.below hb)
                    replace Hh := Lib.hid (Hh.out.below hb)
                    replace HP9 := Lib.hid (RowN.below HP9.out hb)
                    replace HQ9 := Lib.hid (RowN.below HQ9.out hb)
                    clear qf0 qf1 qf2 qf3
                    clear qh0 qh1 qh2 qh3
                    clear hb
                    have qf0 := Hf.out.c0
                    have qf1 := Hf.out.c1
                    have qf2 := Hf.out.c2
                    have qf3 := Hf.out.c3
                    have qh0 := Hh.out.c0
                    have qh1 := Hh.out.c1
                    have qh2 := Hh.out.c2
                    have qh3 := Hh.out.c3
                    go_wp2
                    go_ret
                    exact ⟨by first | rfl | simp, HS9.out.below⟩
        · have hF4 : (if SizeOK high then (1 : Int) else 0) = 0 := if_neg hf4
          clear hf4
          clear hf1 hf2 hf3
          go_enter Tryz.func3, Tryz.ntmps3
          go_wp2_with fail
          refine (awake15 L2 _ HS0.out.et).mono ?_
          rintro e w1 ⟨rfl, hb⟩
          have HS1 := Lib.hid (HS0.out.next hb)
          replace HK := Lib.hid (HK.out.below hb)
          replace HT := Lib.hid (HT.out.below hb)
          replace HA := Lib.hid (RowN.below HA.out hb)
          replace HB := Lib.hid (RowN.below HB.out hb)
          clear hb
          go_wp2_with fail
          refine (few10 S a1 c1 _ HK.out).mono ?_
          rintro e w9 ⟨rfl, rfl⟩
          rw [hF1]
          go_wp2_with fail
          refine (few10 T a4 c4 _ HT.out).mono ?_
          rintro e w9 ⟨rfl, rfl⟩
          rw [hF2]
          go_wp2_with fail
          refine (size9 low a2 c2 _ HA.out).mono ?_
          rintro e w9 ⟨rfl, rfl⟩
          rw [hF3]
          go_wp2_with fail
          refine (size9 high a3 c3 _ HB.out).mono ?_
          rintro e w9 ⟨rfl, rfl⟩
          rw [hF4]
          go_wp2_with fail
          refine (awake15 L2 _ HS1.out.et).mono ?_
          rintro e w2 ⟨rfl, hb⟩
          have HS2 := Lib.hid (HS1.out.next hb)
          replace HK := Lib.hid (HK.out.below hb)
          replace HT := Lib.hid (HT.out.below hb)
          replace HA := Lib.hid (RowN.below HA.out hb)
          replace HB := Lib.hid (RowN.below HB.out hb)
          clear hb
          go_wp2
          go_ret
          exact ⟨by first | rfl | simp, HS2.out.below⟩
      · have hF3 : (if SizeOK low then (1 : Int) else 0) = 0 := if_neg hf3
        clear hf3
        clear hf1 hf2
        go_enter Tryz.func3, Tryz.ntmps3
        go_wp2_with fail
        refine (awake15 L2 _ HS0.out.et).mono ?_
        rintro e w1 ⟨rfl, hb⟩
        have HS1 := Lib.hid (HS0.out.next hb)
        replace HK := Lib.hid (HK.out.below hb)
        replace HT := Lib.hid (HT.out.below hb)
        replace HA := Lib.hid (RowN.below HA.out hb)
        replace HB := Lib.hid (RowN.below HB.out hb)
        clear hb
        go_wp2_with fail
        refine (few10 S a1 c1 _ HK.out).mono ?_
        rintro e w9 ⟨rfl, rfl⟩
        rw [hF1]
        go_wp2_with fail
        refine (few10 T a4 c4 _ HT.out).mono ?_
        rintro e w9 ⟨rfl, rfl⟩
        rw [hF2]
        go_wp2_with fail
        refine (size9 low a2 c2 _ HA.out).mono ?_
        rintro e w9 ⟨rfl, rfl⟩
        rw [hF3]
        go_wp2_with fail
        refine (awake15 L2 _ HS1.out.et).mono ?_
        rintro e w2 ⟨rfl, hb⟩
        have HS2 := Lib.hid (HS1.out.next hb)
        replace HK := Lib.hid (HK.out.below hb)
        replace HT := Lib.hid (HT.out.below hb)
        replace HA := Lib.hid (RowN.below HA.out hb)
        replace HB := Lib.hid (RowN.below HB.out hb)
        clear hb
        go_wp2
        go_ret
        exact ⟨by first | rfl | simp, HS2.out.below⟩
    · have hF2 : (if FewOK T then (1 : Int) else 0) = 0 := if_neg hf2
      clear hf2
      clear hf1
      go_enter Tryz.func3, Tryz.ntmps3
      go_wp2_with fail
      refine (awake15 L2 _ HS0.out.et).mono ?_
      rintro e w1 ⟨rfl, hb⟩
      have HS1 := Lib.hid (HS0.out.next hb)
      replace HK := Lib.hid (HK.out.below hb)
      replace HT := Lib.hid (HT.out.below hb)
      replace HA := Lib.hid (RowN.below HA.out hb)
      replace HB := Lib.hid (RowN.below HB.out hb)
      clear hb
      go_wp2_with fail
      refine (few10 S a1 c1 _ HK.out).mono ?_
      rintro e w9 ⟨rfl, rfl⟩
      rw [hF1]
      go_wp2_with fail
      refine (few10 T a4 c4 _ HT.out).mono ?_
      rintro e w9 ⟨rfl, rfl⟩
      rw [hF2]
      go_wp2_with fail
      refine (awake15 L2 _ HS1.out.et).mono ?_
      rintro e w2 ⟨rfl, hb⟩
      have HS2 := Lib.hid (HS1.out.next hb)
      replace HK := Lib.hid (HK.out.below hb)
      replace HT := Lib.hid (HT.out.below hb)
      replace HA := Lib.hid (RowN.below HA.out hb)
      replace HB := Lib.hid (RowN.below HB.out hb)
      clear hb
      go_wp2
      go_ret
      exact ⟨by first | rfl | simp, HS2.out.below⟩
  · have hF1 : (if FewOK S then (1 : Int) else 0) = 0 := if_neg hf1
    clear hf1
    go_enter Tryz.func3, Tryz.ntmps3
    go_wp2_with fail
    refine (awake15 L2 _ HS0.out.et).mono ?_
    rintro e w1 ⟨rfl, hb⟩
    have HS1 := Lib.hid (HS0.out.next hb)
    replace HK := Lib.hid (HK.out.below hb)
    replace HT := Lib.hid (HT.out.below hb)
    replace HA := Lib.hid (RowN.below HA.out hb)
    replace HB := Lib.hid (RowN.below HB.out hb)
    clear hb
    go_wp2_with fail
    refine (few10 S a1 c1 _ HK.out).mono ?_
    rintro e w9 ⟨rfl, rfl⟩
    rw [hF1]
    go_wp2_with fail
    refine (awake15 L2 _ HS1.out.et).mono ?_
    rintro e w2 ⟨rfl, hb⟩
    have HS2 := Lib.hid (HS1.out.next hb)
    replace HK := Lib.hid (HK.out.below hb)
    replace HT := Lib.hid (HT.out.below hb)
    replace HA := Lib.hid (RowN.below HA.out hb)
    replace HB := Lib.hid (RowN.below HB.out hb)
    clear hb
    go_wp2
    go_ret
    exact ⟨by first | rfl | simp, HS2.out.below⟩
end Go.Proofs.YtkclclhmeenncaaGreatDoor
