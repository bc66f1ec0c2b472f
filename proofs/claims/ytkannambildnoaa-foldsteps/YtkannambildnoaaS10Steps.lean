/-
  The law FoldSteps walked over Fold10: for every stack it returns true and changes nothing that was there. Conditions: package fold answers as Fold10 says; the stack lies in memory.
-/
import Derived.Test.YtkannambildnoaaPkb5
import Derived.Deep.RegionHeld3
namespace Go.Proofs.Ytkannambildnoaa
open Go.RowKit

/-- Are all layers right? -/
def allR (S : List (List Ent)) : Bool := S.all fun l => decide (RightL l)
theorem allR_snoc (S : List (List Ent)) (x : List Ent) : allR (S ++ [x]) = (allR S && decide (RightL x)) := by simp [allR]
theorem allR_iff {S : List (List Ent)} : allR S = true ↔ ∀ l ∈ S, RightL l := by simp [allR]
theorem Ents.of_row10 {w : World} {a : Option Addr} {cap : Nat} {l : List Ent} (h : RowN 3 enc w a cap l) : Ents w a cap l := h
set_option maxRecDepth 10000 in
set_option maxHeartbeats 8000000 in
theorem lawSteps (L : Fold10) (S : List (List Ent)) (a : Option Addr) (cap : Nat) (W : World) (hg : Env W) (hk : Stk W a cap S) : Calls Try.prog 4 #[.slice a S.length cap] W fun e w' => e = .returned (.bool true) ∧ Below W.heap.size W w' := by
  have HS0 := Lib.hid (st10_self hg)
  have HK := Lib.hid hk
  clear hg hk
  by_cases hf : FewOK S
  · have hF1 : (if FewOK S then (1 : Int) else 0) = 1 := if_pos hf
    have HSS := Lib.hid (few_sm hf)
    have H12 := Lib.hid hf.1
    clear hf
    go_enter Try.func4, Try.ntmps4
    go_wp2_with fail
    refine (awake10 L _ HS0.out.env).mono ?_
    rintro e w1 ⟨rfl, hb⟩
    have HS1 := Lib.hid (HS0.out.next hb)
    replace HK := Lib.hid (HK.out.below hb)
    clear hb
    go_wp2_with fail
    refine (few10 S a cap _ HK.out).mono ?_
    rintro e w9 ⟨rfl, rfl⟩
    rw [hF1]
    go_wp2
    go_loopg [3, 4] S.length (fun g r i wx => ∃ (n : Nat) (rb : Bool), r = .bool rb ∧ i = .int .i64 (n : Int) ∧ n + g = S.length ∧ Hid (rb = allR (S.take n)) ∧ Hid (Stk wx a cap S) ∧ Hid (St10 W wx))
    case atStart => exact ⟨0, true, rfl, rfl, by omega, rfl, HK.out, HS1.out⟩
    case round =>
      obtain ⟨n, rb, rfl, rfl, hn, HR, HK2, HS2⟩ := hrel
      have hw : IntKind.i64.wrap ((n : Int) + 1) = (n : Int) + 1 := IntWalk.i64_in _ (by have := H12.out; omega)
      by_cases hlt : n < S.length
      · have hlt' : (n : Int) < (S.length : Int) := by omega
        have HT := Lib.hid (take_get S n hlt)
        have HXS := Lib.hid (HSS.out.2 _ (List.getElem_mem hlt))
        obtain ⟨b, off, a', cap', e9, hc, hE⟩ := Stk.at HK2.out (Below.refl _ _) hlt
        obtain ⟨x, hx⟩ : ∃ x, S[n] = x := ⟨_, rfl⟩
        rw [hx] at HT HXS hc hE
        clear hx
        cases e9
        have HX := Lib.hid hE
        clear hE
        have HN := Lib.hid (show (rb && decide (RightL x)) = allR (S.take (n + 1)) by rw [HT.out, HR.out, allR_snoc])
        clear HR
        cases rb with
        | false =>
          go_wp2
          go_roundg (gk - 1)
          case measure => omega
          case rel => exact ⟨n + 1, _, rfl, by simp, by omega, by simpa [Hid] using HN.out, HK2.out, HS2.out⟩
        | true =>
          go_wp2_with fail
          refine (L.right x a' cap' _ HS2.out.env HX.out HXS.out).mono ?_
          rintro e w3 ⟨rfl, hb⟩
          have HS3 := Lib.hid (HS2.out.next hb)
          replace HK2 := Lib.hid (HK2.out.below hb)
          clear hb
          go_wp2
          go_roundg (gk - 1)
          case measure => omega
          case rel => exact ⟨n + 1, _, rfl, by simp, by omega, by simpa [Hid] using HN.out, HK2.out, HS3.out⟩
      · have hlt' : ¬ (n : Int) < (S.length : Int) := by omega
        have HR2 := Lib.hid (show rb = allR S by rw [HR.out, List.take_of_length_le (by omega)])
        clear HR
        cases rb with
        | false =>
          have HV := Lib.hid (show stV S = [] from if_neg fun h9 => by have := allR_iff.2 h9.2; rw [← HR2.out] at this; cases this)
          go_wp2_with fail
          refine (L.stack S a cap _ HS2.out.env HK2.out HSS.out.1 HSS.out.2).mono ?_
          rintro e w3 ⟨a3, cap3, rfl, _, hb⟩
          have HS3 := Lib.hid (HS2.out.next hb)
          clear hb
          rw [HV.out]
          go_wp2
          go_ret
          exact ⟨by first | rfl | simp, HS3.out.below⟩
        | true =>
          have HRA := Lib.hid (allR_iff.1 HR2.out.symm)
          by_cases h9 : (9 : Int) < (S.length : Int)
          · have HV := Lib.hid (show stV S = [] from if_neg fun h8 => by omega)
            go_wp2_with fail
            refine (L.stack S a cap _ HS2.out.env HK2.out HSS.out.1 HSS.out.2).mono ?_
            rintro e w3 ⟨a3, cap3, rfl, _, hb⟩
            have HS3 := Lib.hid (HS2.out.next hb)
            clear hb
            rw [HV.out]
            go_wp2
            go_ret
            exact ⟨by first | rfl | simp, HS3.out.below⟩
          · by_cases h0 : S.length = 0
            · have g0 : ((S.length : Int) == 0) = true := by rw [h0]; rfl
              have hS0 : S = [] := List.length_eq_zero_iff.1 h0
              subst hS0
              have HV := Lib.hid (show stV [] = [] from if_pos ⟨by simp, by simp⟩)
              clear h0
              go_wp2_with fail
              refine (L.stack [] a cap _ HS2.out.env HK2.out HSS.out.1 HSS.out.2).mono ?_
              rintro e w3 ⟨a3, cap3, rfl, _, hb⟩
              have HS3 := Lib.hid (HS2.out.next hb)
              clear hb
              rw [HV.out]
              go_wp2
              go_ret
              exact ⟨by first | rfl | simp, HS3.out.below⟩
            · have g0 : ((S.length : Int) == 0) = false := by rw [beq_eq_false_iff_ne]; omega
              have hne : ¬ S = [] := fun e9 => h0 (by rw [e9]; rfl)
              obtain ⟨m, hm⟩ : ∃ m, S.length - 1 = m := ⟨_, rfl⟩
              have hml : m < S.length := by omega
              have hml' : (m : Int) < (S.length : Int) := by omega
              have hmc : (m : Int) ≤ (cap : Int) := by have := HK2.out.1; omega
              have hwm : IntKind.i64.wrap ((S.length : Int) - 1) = (m : Int) := by rw [show (S.length : Int) - 1 = (m : Int) by omega]; exact IntWalk.i64_in _ (by have := H12.out; omega)
              have hmS : S = S.take m ++ [S[m]] := by rw [← take_get S m hml, List.take_of_length_le (by omega)]
              have HXS := Lib.hid (HSS.out.2 _ (List.getElem_mem hml))
              have HXR := Lib.hid (HRA.out _ (List.getElem_mem hml))
              obtain ⟨b, off, a', cap', e9, hc, hE⟩ := Stk.at HK2.out (Below.refl _ _) hml
              obtain ⟨x, hx⟩ : ∃ x, S[m] = x := ⟨_, rfl⟩
              rw [hx] at hmS HXS hc hE HXR
              clear hx
              cases e9
              have HPR : Hid (∀ l ∈ S.take m, RightL l) := fun l hl => HRA.out l (List.mem_of_mem_take hl)
              have HV1 := Lib.hid (show stV S = stk S from if_pos ⟨by omega, HRA.out⟩)
              have HV2 := Lib.hid (show stV (S.take m) = stk (S.take m) from if_pos ⟨by rw [List.length_take]; omega, HPR.out⟩)
              obtain ⟨u, hu⟩ : ∃ u, stk (S.take m) = u := ⟨_, rfl⟩
              have HUT := Lib.hid (show TR u ∧ u.length ≤ 576 by
                rw [← hu]
                have h8 := stk_len HPR.out
                rw [List.length_take] at h8
                exact ⟨tr_stk HPR.out, by omega⟩)
              have HV3 := Lib.hid (show stk S = over u x by
                conv => lhs; rw [hmS, stk_snoc]
                rw [hu])
              rw [hu] at HV2
              have HV4 := Lib.hid (ov_right HUT.out.1 (by have := HUT.out.2; omega) HXR.out)
              obtain ⟨y, hy⟩ : ∃ y, over u x = y := ⟨_, rfl⟩
              rw [hy] at HV3 HV4
              rw [HV3.out] at HV1
              have HYL := Lib.hid (show y.length ≤ 640 by
                rw [← hy]
                have h8 := over_len x u
                have := HXR.out.1
                have := HUT.out.2
                omega)
              have HUS := Lib.hid (sm_tr HUT.out.1 (by have := HUT.out.2; omega))
              have hlm : (S.take m).length = m := by rw [List.length_take]; omega
              have HK3 := Lib.hid (HK2.out.take m)
              have HX := Lib.hid hE
              have HA1 : Hid (∀ X, Below wr.heap.size wr X → Calls Try.prog 12 #[.slice (some ⟨b, off, none⟩) S.length cap] X fun r w' => ∃ a3 cap3, r = .returned (.slice a3 y.length cap3) ∧ Ents w' a3 cap3 y ∧ Below wr.heap.size wr w') := fun X hX => by
                refine (L.stack S _ cap X (HS2.out.next hX).env (HK2.out.below hX) HSS.out.1 HSS.out.2).mono ?_
                rintro r w' ⟨a3, cap3, rfl, h3, hb⟩
                rw [HV1.out] at h3 ⊢
                exact ⟨a3, cap3, rfl, h3, hX.trans (hb.mono hX.size)⟩
              have HA2 : Hid (∀ X, Below wr.heap.size wr X → Calls Try.prog 12 #[.slice (some ⟨b, off, none⟩) m cap] X fun r w' => ∃ a4 cap4, r = .returned (.slice a4 u.length cap4) ∧ Ents w' a4 cap4 u ∧ Below X.heap.size X w' ∧ Below wr.heap.size wr w') := fun X hX => by
                have h8 := L.stack (S.take m) _ cap X (HS2.out.next hX).env (HK3.out.below hX) (by rw [hlm]; have := H12.out; omega) (fun l hl => HSS.out.2 l (List.mem_of_mem_take hl))
                rw [hlm] at h8
                refine h8.mono ?_
                rintro r w' ⟨a4, cap4, rfl, h4, hb⟩
                rw [HV2.out] at h4 ⊢
                exact ⟨a4, cap4, rfl, h4, hb, hX.trans (hb.mono hX.size)⟩
              have HA3 : Hid (∀ X a4 cap4, Ents X a4 cap4 u → Below wr.heap.size wr X → Calls Try.prog 14 #[.slice a4 u.length cap4, .slice a' x.length cap'] X fun r w' => ∃ a5 cap5, r = .returned (.slice a5 y.length cap5) ∧ Ents w' a5 cap5 y ∧ Below X.heap.size X w' ∧ Below wr.heap.size wr w') := fun X a4 cap4 h4 hX => by
                refine (L.over u x a4 cap4 a' cap' X (HS2.out.next hX).env h4 (Ents.of_row10 (HX.out.below hX)) HUS.out HXS.out).mono ?_
                rintro r w' ⟨a5, cap5, rfl, h5, hb⟩
                rw [HV4.out] at h5 ⊢
                exact ⟨a5, cap5, rfl, h5, hb, hX.trans (hb.mono hX.size)⟩
              have HA4 : Hid (∀ w3 w4 X a3 cap3 a5 cap5, Ents w3 a3 cap3 y → Below w3.heap.size w3 w4 → Below w4.heap.size w4 X → Ents X a5 cap5 y → Below wr.heap.size wr X → Calls Try.prog 16 #[.slice a3 y.length cap3, .slice a5 y.length cap5] X fun r w' => r = .returned (.int .i64 1) ∧ Below wr.heap.size wr w') := fun w3 w4 X a3 cap3 a5 cap5 h3 h34 h4X h5 hX => by
                refine (same9 y y a3 a5 cap3 cap5 X (Ents.of_row10 ((h3.below h34).below h4X)) h5 (by have := HYL.out; unfold maxLen; omega)).mono ?_
                rintro r w' ⟨rfl, hb⟩
                exact ⟨by rw [if_pos rfl], hX.trans (hb.mono hX.size)⟩
              have HKS : Hid (∀ X, Below wr.heap.size wr X → X.cell? ⟨b, off + m, none⟩ = some (.slice a' x.length cap')) := fun X hX => (hX.cell (p := ⟨b, off + m, none⟩) (World.block_lt_of_cell? wr _ hc)).trans hc
              clear hE hlm hy hu hmS hm h0
              go_wp2_with fail
              go_region_held3 (fun X => X.cell? ⟨b, off + m, none⟩ = some (.slice a' x.length cap'))
                ((with_reducible refine HKS.out _ ?_; (first | with_reducible assumption | with_reducible exact Below.refl _ _ | with_reducible exact (Below.refl _ _).drew | (with_reducible refine Below.drew ?_; with_reducible assumption))))
                (first
                  | (go_at_call 12; with_reducible refine (HA1.out _ ?_).mono ?_; (focus ((first | with_reducible assumption | with_reducible exact Below.refl _ _ | with_reducible exact (Below.refl _ _).drew | (with_reducible refine Below.drew ?_; with_reducible assumption)))); rintro r w3 ⟨a3, cap3, rfl, h3, hB3⟩)
                  | (go_at_call 12; with_reducible refine (HA2.out _ ?_).mono ?_; (focus ((first | with_reducible assumption | with_reducible exact Below.refl _ _ | with_reducible exact (Below.refl _ _).drew | (with_reducible refine Below.drew ?_; with_reducible assumption)))); rintro r w4 ⟨a4, cap4, rfl, h4, hN4, hB4⟩)
                  | (go_at_call 14; with_reducible refine (HA3.out _ _ _ ?_ ?_).mono ?_; (focus (with_reducible assumption)); (focus ((first | with_reducible assumption | with_reducible exact Below.refl _ _ | with_reducible exact (Below.refl _ _).drew | (with_reducible refine Below.drew ?_; with_reducible assumption)))); rintro r w5 ⟨a5, cap5, rfl, h5, hN5, hB5⟩)
                  | (go_at_call 16; with_reducible refine (HA4.out _ _ _ _ _ _ _ h3 hN4 hN5 h5 ?_).mono ?_; (focus ((first | with_reducible assumption | with_reducible exact Below.refl _ _ | with_reducible exact (Below.refl _ _).drew | (with_reducible refine Below.drew ?_; with_reducible assumption)))); rintro r w6 ⟨rfl, hB6⟩))
              all_goals
                have HS9 := Lib.hid (HS2.out.next hB6)
                go_wp2
                go_ret
                exact ⟨by first | rfl | simp, HS9.out.below⟩
  · have hF1 : (if FewOK S then (1 : Int) else 0) = 0 := if_neg hf
    clear hf
    go_enter Try.func4, Try.ntmps4
    go_wp2_with fail
    refine (awake10 L _ HS0.out.env).mono ?_
    rintro e w1 ⟨rfl, hb⟩
    have HS1 := Lib.hid (HS0.out.next hb)
    replace HK := Lib.hid (HK.out.below hb)
    clear hb
    go_wp2_with fail
    refine (few10 S a cap _ HK.out).mono ?_
    rintro e w9 ⟨rfl, rfl⟩
    rw [hF1]
    go_wp2_with fail
    refine (awake10 L _ HS1.out.env).mono ?_
    rintro e w2 ⟨rfl, hb⟩
    have HS2 := Lib.hid (HS1.out.next hb)
    clear hb
    go_wp2
    go_ret
    exact ⟨by first | rfl | simp, HS2.out.below⟩
end Go.Proofs.Ytkannambildnoaa
