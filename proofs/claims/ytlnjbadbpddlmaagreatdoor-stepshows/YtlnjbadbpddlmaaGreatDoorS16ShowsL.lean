/-
  The law StepShows walked over Step16, Stack15: for every stack and two layers it returns true and changes nothing that was there. Conditions: packages step and fold answer as these say; stack and layers lie in memory; errorType holds error's type.
-/
import Derived.Test.YtlnjbadbpddlmaaGreatDoorPo
import Derived.Test.YtlnjbadbpddlmaaGreatDoorPd
import Derived.Test.YtlnjbadbpddlmaaGreatDoorPq
import Derived.Test.YtlnjbadbpddlmaaGreatDoorPc
import Derived.IntWalk
namespace Go.Proofs.YtlnjbadbpddlmaaGreatDoor
open Go.RowKit

set_option maxRecDepth 10000 in
set_option maxHeartbeats 16000000 in
theorem lawShows16 {M : World → Nat → (Nat → Prop) → List Ent → List Ent → Bool → Nat → Prop} (L : Step16 M) (LS : Stack15) (S : List (List Ent)) (lo hi : List Ent) (a1 : Option Addr) (c1 : Nat) (a : Option Addr) (ca : Nat) (b : Option Addr) (cb : Nat) (W : World) (hg : EtLaid W) (k1 : Stk W a1 c1 S) (k2 : Ents W a ca lo) (k3 : Ents W b cb hi) :
    Calls Tryz.prog 3 #[.slice a1 S.length c1, .slice a lo.length ca, .slice b hi.length cb] W fun e w' => e = .returned (.bool true) ∧ Below W.heap.size W w' := by
  have HS0 := Lib.hid (st_self hg)
  have HG := Lib.hid hg
  have HK0 := Lib.hid k1
  have HA0 := Lib.hid k2
  have HB0 := Lib.hid k3
  have HK := Lib.hid k1
  have HA := Lib.hid k2
  have HB := Lib.hid k3
  clear hg k1 k2 k3
  by_cases hf0 : FewOK S
  · have hF0 : (if FewOK S then (1 : Int) else 0) = 1 := if_pos hf0
    by_cases hf1 : SizeOK lo
    · have hF1 : (if SizeOK lo then (1 : Int) else 0) = 1 := if_pos hf1
      by_cases hf2 : SizeOK hi
      · have hF2 : (if SizeOK hi then (1 : Int) else 0) = 1 := if_pos hf2
        by_cases h6 : (6 : Int) < (S.length : Int)
        · clear hf0 hf1 hf2
          go_enter Tryz.func3, Tryz.ntmps3
          go_wp2_with fail
          refine (awake16 L _ HS0.out.et).mono ?_
          rintro e w1 ⟨rfl, hb⟩
          have HS1 := Lib.hid (HS0.out.next hb)
          replace HK := Lib.hid (HK.out.below hb)
          replace HA := Lib.hid (RowN.below HA.out hb)
          replace HB := Lib.hid (RowN.below HB.out hb)
          clear hb
          go_wp2_with fail
          refine (few10 S a1 c1 _ HK.out).mono ?_
          rintro e w9 ⟨rfl, rfl⟩
          rw [hF0]
          go_wp2_with fail
          refine (size9 lo a ca _ HA.out).mono ?_
          rintro e w9 ⟨rfl, rfl⟩
          rw [hF1]
          go_wp2_with fail
          refine (size9 hi b cb _ HB.out).mono ?_
          rintro e w9 ⟨rfl, rfl⟩
          rw [hF2]
          go_wp2_with fail
          refine (awake16 L _ HS1.out.et).mono ?_
          rintro e w2 ⟨rfl, hb⟩
          have HS2 := Lib.hid (HS1.out.next hb)
          replace HK := Lib.hid (HK.out.below hb)
          replace HA := Lib.hid (RowN.below HA.out hb)
          replace HB := Lib.hid (RowN.below HB.out hb)
          clear hb
          go_wp2
          go_ret
          exact ⟨by first | rfl | simp, HS2.out.below⟩
        · have H6 := Lib.hid (show S.length ≤ 6 by omega)
          have HSS := Lib.hid (few_sm12 hf0)
          have HSMA := Lib.hid (sm_size hf1)
          have HSMB := Lib.hid (sm_size hf2)
          clear hf0 hf1 hf2
          obtain ⟨bt, hbt⟩ : ∃ bt, ((S.length : Int) == 0) = bt := ⟨_, rfl⟩
          have HBT := Lib.hid (show bt = true ↔ S = [] by
            rw [← hbt, beq_iff_eq]
            constructor
            · intro h
              exact List.length_eq_zero_iff.1 (by omega)
            · rintro rfl
              rfl)
          by_cases hrr : RightL lo ∧ RightL hi
          · have HRR := Lib.hid hrr
            clear hrr
            have HX2 := Lib.hid (show min (100 : Int).toNat (hi.length - 0) = hi.length by show min 100 (hi.length - 0) = hi.length; have := HRR.out.2.1; omega)
            obtain ⟨n0, ONE, htw⟩ : ∃ n X, twV lo hi bt = (n, X) := ⟨_, _, rfl⟩
            have HLY : Hid (∀ w q F, EtLaid w → Mg M W w q F lo hi bt hi.length → Calls Tryz.prog 10 #[.pointer (some ⟨q, 0, none⟩)] w fun e w' => ∃ a' c' er, e = .returned (.tuple #[.slice a' ONE.length c', er]) ∧ Ents w' a' c' ONE ∧ Er w' n0 er ∧ Below w.heap.size w w') := fun w q F h1 h2 => by
              have := L.layer q F lo hi bt hi.length w h1 h2.at_
              rwa [lyV_ready, htw] at this
            have hll : IntKind.i64.wrap ((lo.length : Int) + (hi.length : Int)) = (lo.length : Int) + (hi.length : Int) := IntWalk.i64_in _ (by have := HSMA.out.1; have := HSMB.out.1; omega)
            rcases tw_cases lo hi bt with ⟨h9, _⟩ | ⟨_, _, h64, ht⟩ | ⟨r1, r2, h64, ht⟩
            · exact absurd HRR.out h9
            · obtain rfl : n0 = 9 := by rw [htw] at ht; exact congrArg Prod.fst ht
              have g64 : (64 : Int) < (lo.length : Int) + (hi.length : Int) := by
                have := two_len lo hi bt
                omega
              clear ht h64 htw
              go_enter Tryz.func3, Tryz.ntmps3
              go_wp2_with fail
              refine (awake16 L _ HS0.out.et).mono ?_
              rintro e w1 ⟨rfl, hb⟩
              have HS1 := Lib.hid (HS0.out.next hb)
              replace HK := Lib.hid (HK.out.below hb)
              replace HA := Lib.hid (RowN.below HA.out hb)
              replace HB := Lib.hid (RowN.below HB.out hb)
              clear hb
              go_wp2_with fail
              refine (few10 S a1 c1 _ HK.out).mono ?_
              rintro e w9 ⟨rfl, rfl⟩
              rw [hF0]
              go_wp2_with fail
              refine (size9 lo a ca _ HA.out).mono ?_
              rintro e w9 ⟨rfl, rfl⟩
              rw [hF1]
              go_wp2_with fail
              refine (size9 hi b cb _ HB.out).mono ?_
              rintro e w9 ⟨rfl, rfl⟩
              rw [hF2]
              go_wp2_with fail
              refine (beginMg L lo hi a b ca cb bt HS1.out HA.out HB.out HRR.out.1 HRR.out.2).mono ?_
              rintro e w2 ⟨bM, FM, rfl, hm, -, hb⟩
              have HM := Lib.hid hm
              clear hm
              have HS2 := Lib.hid (HS1.out.next hb)
              replace HK := Lib.hid (HK.out.below hb)
              replace HA := Lib.hid (RowN.below HA.out hb)
              replace HB := Lib.hid (RowN.below HB.out hb)
              clear hb
              go_wp2_with fail
              refine (code_er 0 .nilIface _ (er_nil _) HS2.out.et).mono ?_
              rintro e w3 ⟨rfl, hb⟩
              have HS3 := Lib.hid (HS2.out.next hb)
              replace HK := Lib.hid (HK.out.below hb)
              replace HA := Lib.hid (RowN.below HA.out hb)
              replace HB := Lib.hid (RowN.below HB.out hb)
              replace HM := Lib.hid (HM.out.next L hb)
              clear hb
              go_wp2_with fail
              refine (stepMg L 100 hi.length HG.out HS3.out HM.out (by decide) HX2.out).mono ?_
              rintro e w4 ⟨F2, rfl, hm, hs, -, -⟩
              rw [Nat.zero_add] at hm
              replace HM := Lib.hid hm
              have HS4 := Lib.hid hs
              replace HK := Lib.hid (HK0.out.below HS4.out.below)
              replace HA := Lib.hid (RowN.below HA0.out HS4.out.below)
              replace HB := Lib.hid (RowN.below HB0.out HS4.out.below)
              clear hm hs
              go_wp2_with fail
              refine (HLY.out _ _ _ HS4.out.et HM.out).mono ?_
              rintro e w5 ⟨aX, cX, eX, rfl, h9, e9, hb⟩
              have HX := Lib.hid h9
              have HEX := Lib.hid e9
              clear h9 e9
              have HS5 := Lib.hid (HS4.out.next hb)
              replace HK := Lib.hid (HK.out.below hb)
              replace HA := Lib.hid (RowN.below HA.out hb)
              replace HB := Lib.hid (RowN.below HB.out hb)
              replace HM := Lib.hid (HM.out.next L hb)
              clear hb
              go_wp2_with fail
              refine (code_er _ _ _ HEX.out HS5.out.et).mono ?_
              rintro e w6 ⟨rfl, hb⟩
              have HS6 := Lib.hid (HS5.out.next hb)
              replace HK := Lib.hid (HK.out.below hb)
              replace HA := Lib.hid (RowN.below HA.out hb)
              replace HB := Lib.hid (RowN.below HB.out hb)
              replace HM := Lib.hid (HM.out.next L hb)
              replace HX := Lib.hid (RowN.below HX.out hb)
              replace HEX := Lib.hid (HEX.out.below hb)
              clear hb
              go_wp2_with fail
              refine (code_er _ _ _ HEX.out HS6.out.et).mono ?_
              rintro e w7 ⟨rfl, hb⟩
              have HS7 := Lib.hid (HS6.out.next hb)
              replace HK := Lib.hid (HK.out.below hb)
              replace HA := Lib.hid (RowN.below HA.out hb)
              replace HB := Lib.hid (RowN.below HB.out hb)
              replace HM := Lib.hid (HM.out.next L hb)
              replace HX := Lib.hid (RowN.below HX.out hb)
              replace HEX := Lib.hid (HEX.out.below hb)
              clear hb
              go_wp2
              go_ret
              exact ⟨by first | rfl | simp, HS7.out.below⟩
            · obtain rfl : n0 = 0 := by rw [htw] at ht; exact congrArg Prod.fst ht
              have h0 : (twV lo hi bt).1 = 0 := by rw [htw]
              have hsh := shows15 (T := []) (by have := H6.out; simp; omega) HBT.out h0 []
              have hR1 : RightL ONE := by
                have h3 := tw_zero h0
                rw [htw] at h3
                have h4 : ONE = two15 lo hi bt := h3.2.2.1
                rw [h4]
                exact h3.2.2.2
              rw [htw, List.append_nil, List.append_nil] at hsh
              obtain ⟨q1, _, _⟩ := hsh
              have hsmx : ∀ l ∈ S ++ [lo, hi], Sm l := fun l hl => by
                rcases List.mem_append.1 hl with hl | hl
                · exact HSS.out.2 l hl
                · rcases List.mem_cons.1 hl with rfl | hl
                  · exact HSMA.out
                  · rw [List.mem_singleton.1 hl]; exact HSMB.out
              have hsmy : ∀ l ∈ S ++ [ONE], Sm l := fun l hl => by
                rcases List.mem_append.1 hl with hl | hl
                · exact HSS.out.2 l hl
                · rw [List.mem_singleton.1 hl]; exact sm_right hR1
              have hlx : (S ++ [lo, hi]).length ≤ 100 := by have := H6.out; simp; omega
              have hly : (S ++ [ONE]).length ≤ 100 := by have := H6.out; simp; omega
              have hfl : (fsV (S ++ [lo, hi])).length ≤ maxLen := by
                unfold fsV
                split
                · rename_i hok
                  have h8 := stk_len hok.2
                  have h9 := hok.1
                  unfold maxLen
                  omega
                · unfold maxLen; simp
              obtain ⟨FS, hFS⟩ : ∃ l, fsV (S ++ [lo, hi]) = l := ⟨_, rfl⟩
              rw [hFS] at q1 hfl
              have HML := Lib.hid hfl
              have HLSX : Hid (∀ w a c, EtLaid w → Stk w a c (S ++ [lo, hi]) → Calls Tryz.prog 12 #[.slice a (S ++ [lo, hi]).length c] w fun e w' => ∃ a' cap', e = .returned (.slice a' FS.length cap') ∧ Ents w' a' cap' FS ∧ Below w.heap.size w w') := fun w a c h1 h2 => by
                have := LS _ a c w h1 h2 hlx hsmx
                rw [hFS] at this
                exact this
              have HLSY : Hid (∀ w a c, EtLaid w → Stk w a c (S ++ [ONE]) → Calls Tryz.prog 12 #[.slice a (S ++ [ONE]).length c] w fun e w' => ∃ a' cap', e = .returned (.slice a' FS.length cap') ∧ Ents w' a' cap' FS ∧ Below w.heap.size w w') := fun w a c h1 h2 => by
                have := LS _ a c w h1 h2 hly hsmy
                rw [← q1] at this
                exact this
              clear q1 hFS hlx hly hsmx hsmy hfl ht htw h64 r1 r2 h0 hR1
              go_enter Tryz.func3, Tryz.ntmps3
              go_wp2_with fail
              refine (awake16 L _ HS0.out.et).mono ?_
              rintro e w1 ⟨rfl, hb⟩
              have HS1 := Lib.hid (HS0.out.next hb)
              replace HK := Lib.hid (HK.out.below hb)
              replace HA := Lib.hid (RowN.below HA.out hb)
              replace HB := Lib.hid (RowN.below HB.out hb)
              clear hb
              go_wp2_with fail
              refine (few10 S a1 c1 _ HK.out).mono ?_
              rintro e w9 ⟨rfl, rfl⟩
              rw [hF0]
              go_wp2_with fail
              refine (size9 lo a ca _ HA.out).mono ?_
              rintro e w9 ⟨rfl, rfl⟩
              rw [hF1]
              go_wp2_with fail
              refine (size9 hi b cb _ HB.out).mono ?_
              rintro e w9 ⟨rfl, rfl⟩
              rw [hF2]
              go_wp2_with fail
              refine (beginMg L lo hi a b ca cb bt HS1.out HA.out HB.out HRR.out.1 HRR.out.2).mono ?_
              rintro e w2 ⟨bM, FM, rfl, hm, -, hb⟩
              have HM := Lib.hid hm
              clear hm
              have HS2 := Lib.hid (HS1.out.next hb)
              replace HK := Lib.hid (HK.out.below hb)
              replace HA := Lib.hid (RowN.below HA.out hb)
              replace HB := Lib.hid (RowN.below HB.out hb)
              clear hb
              go_wp2_with fail
              refine (code_er 0 .nilIface _ (er_nil _) HS2.out.et).mono ?_
              rintro e w3 ⟨rfl, hb⟩
              have HS3 := Lib.hid (HS2.out.next hb)
              replace HK := Lib.hid (HK.out.below hb)
              replace HA := Lib.hid (RowN.below HA.out hb)
              replace HB := Lib.hid (RowN.below HB.out hb)
              replace HM := Lib.hid (HM.out.next L hb)
              clear hb
              go_wp2_with fail
              refine (stepMg L 100 hi.length HG.out HS3.out HM.out (by decide) HX2.out).mono ?_
              rintro e w4 ⟨F2, rfl, hm, hs, -, -⟩
              rw [Nat.zero_add] at hm
              replace HM := Lib.hid hm
              have HS4 := Lib.hid hs
              replace HK := Lib.hid (HK0.out.below HS4.out.below)
              replace HA := Lib.hid (RowN.below HA0.out HS4.out.below)
              replace HB := Lib.hid (RowN.below HB0.out HS4.out.below)
              clear hm hs
              go_wp2_with fail
              refine (HLY.out _ _ _ HS4.out.et HM.out).mono ?_
              rintro e w5 ⟨aX, cX, eX, rfl, h9, e9, hb⟩
              have HX := Lib.hid h9
              have HEX := Lib.hid e9
              clear h9 e9
              have HS5 := Lib.hid (HS4.out.next hb)
              replace HK := Lib.hid (HK.out.below hb)
              replace HA := Lib.hid (RowN.below HA.out hb)
              replace HB := Lib.hid (RowN.below HB.out hb)
              replace HM := Lib.hid (HM.out.next L hb)
              clear hb
              go_wp2_with fail
              refine (code_er _ _ _ HEX.out HS5.out.et).mono ?_
              rintro e w6 ⟨rfl, hb⟩
              have HS6 := Lib.hid (HS5.out.next hb)
              replace HK := Lib.hid (HK.out.below hb)
              replace HA := Lib.hid (RowN.below HA.out hb)
              replace HB := Lib.hid (RowN.below HB.out hb)
              replace HM := Lib.hid (HM.out.next L hb)
              replace HX := Lib.hid (RowN.below HX.out hb)
              replace HEX := Lib.hid (HEX.out.below hb)
              clear hb
              clear HEX HM
              obtain ⟨wc, hwc⟩ : ∃ w, w = w6 := ⟨_, rfl⟩
              subst hwc
              have hbz : Below wc.heap.size wc (wc.alloc (.cells #[] 23)) := (Below.refl _ _).alloc (Nat.le_refl _) _
              obtain ⟨hsS, HSR⟩ := src_old HK.out hbz
              go_wp2_with (at_builtin; refine Stopped.go ?_)
              unfold Stopped
              refine wl_catS (by rfl) _ _ (by rfl) wc _ [] S (by rfl) (ownS_new wc wc (Nat.le_refl _)) hbz a1 c1 (by rfl) hsS HSR (by have := H6.out; simp; omega) ?_
              intro va wa hoa hba _
              rw [List.nil_append] at hoa
              have HOA := Lib.hid hoa
              have HBA := Lib.hid hba
              clear hbz HSR hoa hba
              have hb2 : Below wc.heap.size wc (wa.alloc (.cells #[.slice a lo.length ca, .slice b hi.length cb] 23)) := HBA.out.alloc HBA.out.size _
              go_wp2_with (at_builtin; refine Stopped.go ?_)
              unfold Stopped
              refine wl_catS (by rfl) _ _ (by rfl) wc _ S [lo, hi] (by rfl) (HOA.out.below ((Below.refl _ _).alloc (Nat.le_refl _) _)) hb2 (some ⟨wa.heap.size, 0, none⟩) 2 (by rfl) _ (src_two HA.out HB.out (cell_of8 (heap_alloc_new _ _) (j := 0) rfl).1 (cell_of8 (heap_alloc_new _ _) (j := 1) rfl).1) (by have := H6.out; simp; omega) ?_
              intro vx wx hox hbx _
              have HOX := Lib.hid hox
              have HBX := Lib.hid hbx
              clear hb2 hox hbx HOA HBA
              have hb3 : Below wc.heap.size wc (wx.alloc (.cells #[] 23)) := HBX.out.alloc HBX.out.size _
              obtain ⟨hsS2, HSR⟩ := src_old HK.out hb3
              go_wp2_with (at_builtin; refine Stopped.go ?_)
              unfold Stopped
              refine wl_cat2 (by rfl) _ _ (by rfl) wc vx _ (S ++ [lo, hi]) [] S (by rfl) (own2_new HOX.out HBX.out.size) hb3 a1 c1 (by rfl) hsS2 HSR (by have := H6.out; simp; omega) ?_
              intro vy0 wy0 ho0 hb0
              rw [List.nil_append] at ho0
              have HO0 := Lib.hid ho0
              have HB9 := Lib.hid hb0
              clear hb3 HSR ho0 hb0 HOX HBX
              have hb4 : Below wc.heap.size wc (wy0.alloc (.cells #[.slice aX ONE.length cX] 23)) := HB9.out.alloc HB9.out.size _
              go_wp2_with (at_builtin; refine Stopped.go ?_)
              unfold Stopped
              refine wl_cat2 (by rfl) _ _ (by rfl) wc vx _ (S ++ [lo, hi]) S [ONE] (by rfl) (HO0.out.below ((Below.refl _ _).alloc (Nat.le_refl _) _)) hb4 (some ⟨wy0.heap.size, 0, none⟩) 1 (by rfl) _ (src_one HX.out (cell_of8 (heap_alloc_new _ _) (j := 0) rfl).1) (by have := H6.out; simp; omega) ?_
              intro vy wy hoy hby
              have HBY := Lib.hid hby
              obtain ⟨ax, cx, rfl, hkx⟩ := stk_of_ownS hoy.1 hby
              obtain ⟨ay, cy, rfl, hky⟩ := stk_of_ownS hoy.2.1 hby
              have HKX := Lib.hid hkx
              have HKY := Lib.hid hky
              have HT0 := Lib.hid (HS6.out.next HBY.out)
              clear hb4 hoy hby HO0 HB9 hkx hky
              obtain ⟨SX, hSX⟩ : ∃ l, S ++ [lo, hi] = l := ⟨_, rfl⟩
              obtain ⟨SY, hSY⟩ : ∃ l, S ++ [ONE] = l := ⟨_, rfl⟩
              rw [hSX] at HKX HLSX ⊢
              rw [hSY] at HKY HLSY ⊢
              clear hSX hSY
              go_wp2_with fail
              refine (HLSX.out _ _ _ HT0.out.et HKX.out).mono ?_
              rintro e z1 ⟨aP, cP, rfl, h9, hb⟩
              have HP9 := Lib.hid h9
              have HT1 := Lib.hid (HT0.out.next hb)
              replace HKY := Lib.hid (HKY.out.below hb)
              clear h9 hb
              go_wp2_with fail
              refine (HLSY.out _ _ _ HT1.out.et HKY.out).mono ?_
              rintro e z2 ⟨aQ, cQ, rfl, h9, hb⟩
              have HQ9 := Lib.hid h9
              have HT2 := Lib.hid (HT1.out.next hb)
              replace HP9 := Lib.hid (RowN.below HP9.out hb)
              clear h9 hb
              go_wp2_with fail
              refine (same9 _ _ _ _ _ _ _ HP9.out HQ9.out HML.out).mono ?_
              rintro e z3 ⟨rfl, hb⟩
              rw [if_pos rfl]
              have HT3 := Lib.hid (HT2.out.next hb)
              clear hb
              go_wp2
              go_ret
              exact ⟨by first | rfl | simp, HT3.out.below⟩
          · have HNR := Lib.hid hrr
            clear hrr
            go_enter Tryz.func3, Tryz.ntmps3
            go_wp2_with fail
            refine (awake16 L _ HS0.out.et).mono ?_
            rintro e w1 ⟨rfl, hb⟩
            have HS1 := Lib.hid (HS0.out.next hb)
            replace HK := Lib.hid (HK.out.below hb)
            replace HA := Lib.hid (RowN.below HA.out hb)
            replace HB := Lib.hid (RowN.below HB.out hb)
            clear hb
            go_wp2_with fail
            refine (few10 S a1 c1 _ HK.out).mono ?_
            rintro e w9 ⟨rfl, rfl⟩
            rw [hF0]
            go_wp2_with fail
            refine (size9 lo a ca _ HA.out).mono ?_
            rintro e w9 ⟨rfl, rfl⟩
            rw [hF1]
            go_wp2_with fail
            refine (size9 hi b cb _ HB.out).mono ?_
            rintro e w9 ⟨rfl, rfl⟩
            rw [hF2]
            go_wp2_with fail
            refine (beginBad L lo hi a b ca cb bt HS1.out HA.out HB.out HSMA.out HSMB.out HNR.out).mono ?_
            rintro e w2 ⟨eB, rfl, e9, hb⟩
            have HEB := Lib.hid e9
            clear e9
            have HS2 := Lib.hid (HS1.out.next hb)
            replace HK := Lib.hid (HK.out.below hb)
            replace HA := Lib.hid (RowN.below HA.out hb)
            replace HB := Lib.hid (RowN.below HB.out hb)
            clear hb
            go_wp2_with fail
            refine (code_er _ _ _ HEB.out HS2.out.et).mono ?_
            rintro e w3 ⟨rfl, hb⟩
            have HS3 := Lib.hid (HS2.out.next hb)
            replace HK := Lib.hid (HK.out.below hb)
            replace HA := Lib.hid (RowN.below HA.out hb)
            replace HB := Lib.hid (RowN.below HB.out hb)
            replace HEB := Lib.hid (HEB.out.below hb)
            clear hb
            go_wp2_with fail
            refine (code_er _ _ _ HEB.out HS3.out.et).mono ?_
            rintro e w4 ⟨rfl, hb⟩
            have HS4 := Lib.hid (HS3.out.next hb)
            replace HK := Lib.hid (HK.out.below hb)
            replace HA := Lib.hid (RowN.below HA.out hb)
            replace HB := Lib.hid (RowN.below HB.out hb)
            replace HEB := Lib.hid (HEB.out.below hb)
            clear hb
            go_wp2
            go_ret
            exact ⟨by first | rfl | simp, HS4.out.below⟩
      · have hF2 : (if SizeOK hi then (1 : Int) else 0) = 0 := if_neg hf2
        clear hf2
        clear hf0 hf1
        go_enter Tryz.func3, Tryz.ntmps3
        go_wp2_with fail
        refine (awake16 L _ HS0.out.et).mono ?_
        rintro e w1 ⟨rfl, hb⟩
        have HS1 := Lib.hid (HS0.out.next hb)
        replace HK := Lib.hid (HK.out.below hb)
        replace HA := Lib.hid (RowN.below HA.out hb)
        replace HB := Lib.hid (RowN.below HB.out hb)
        clear hb
        go_wp2_with fail
        refine (few10 S a1 c1 _ HK.out).mono ?_
        rintro e w9 ⟨rfl, rfl⟩
        rw [hF0]
        go_wp2_with fail
        refine (size9 lo a ca _ HA.out).mono ?_
        rintro e w9 ⟨rfl, rfl⟩
        rw [hF1]
        go_wp2_with fail
        refine (size9 hi b cb _ HB.out).mono ?_
        rintro e w9 ⟨rfl, rfl⟩
        rw [hF2]
        go_wp2_with fail
        refine (awake16 L _ HS1.out.et).mono ?_
        rintro e w2 ⟨rfl, hb⟩
        have HS2 := Lib.hid (HS1.out.next hb)
        replace HK := Lib.hid (HK.out.below hb)
        replace HA := Lib.hid (RowN.below HA.out hb)
        replace HB := Lib.hid (RowN.below HB.out hb)
        clear hb
        go_wp2
        go_ret
        exact ⟨by first | rfl | simp, HS2.out.below⟩
    · have hF1 : (if SizeOK lo then (1 : Int) else 0) = 0 := if_neg hf1
      clear hf1
      clear hf0
      go_enter Tryz.func3, Tryz.ntmps3
      go_wp2_with fail
      refine (awake16 L _ HS0.out.et).mono ?_
      rintro e w1 ⟨rfl, hb⟩
      have HS1 := Lib.hid (HS0.out.next hb)
      replace HK := Lib.hid (HK.out.below hb)
      replace HA := Lib.hid (RowN.below HA.out hb)
      replace HB := Lib.hid (RowN.below HB.out hb)
      clear hb
      go_wp2_with fail
      refine (few10 S a1 c1 _ HK.out).mono ?_
      rintro e w9 ⟨rfl, rfl⟩
      rw [hF0]
      go_wp2_with fail
      refine (size9 lo a ca _ HA.out).mono ?_
      rintro e w9 ⟨rfl, rfl⟩
      rw [hF1]
      go_wp2_with fail
      refine (awake16 L _ HS1.out.et).mono ?_
      rintro e w2 ⟨rfl, hb⟩
      have HS2 := Lib.hid (HS1.out.next hb)
      replace HK := Lib.hid (HK.out.below hb)
      replace HA := Lib.hid (RowN.below HA.out hb)
      replace HB := Lib.hid (RowN.below HB.out hb)
      clear hb
      go_wp2
      go_ret
      exact ⟨by first | rfl | simp, HS2.out.below⟩
  · have hF0 : (if FewOK S then (1 : Int) else 0) = 0 := if_neg hf0
    clear hf0
    go_enter Tryz.func3, Tryz.ntmps3
    go_wp2_with fail
    refine (awake16 L _ HS0.out.et).mono ?_
    rintro e w1 ⟨rfl, hb⟩
    have HS1 := Lib.hid (HS0.out.next hb)
    replace HK := Lib.hid (HK.out.below hb)
    replace HA := Lib.hid (RowN.below HA.out hb)
    replace HB := Lib.hid (RowN.below HB.out hb)
    clear hb
    go_wp2_with fail
    refine (few10 S a1 c1 _ HK.out).mono ?_
    rintro e w9 ⟨rfl, rfl⟩
    rw [hF0]
    go_wp2_with fail
    refine (awake16 L _ HS1.out.et).mono ?_
    rintro e w2 ⟨rfl, hb⟩
    have HS2 := Lib.hid (HS1.out.next hb)
    replace HK := Lib.hid (HK.out.below hb)
    replace HA := Lib.hid (RowN.below HA.out hb)
    replace HB := Lib.hid (RowN.below HB.out hb)
    clear hb
    go_wp2
    go_ret
    exact ⟨by first | rfl | simp, HS2.out.below⟩
end Go.Proofs.YtlnjbadbpddlmaaGreatDoor
