/-
  The law FoldAlone walked over Fold10: for every stack, list of entries and place it returns true and changes nothing that was there. Conditions: package fold answers as Fold10 says; both lie in memory.
-/
import Derived.Test.YtkannambildnoaaPkb5
namespace Go.Proofs.Ytkannambildnoaa
open Go.RowKit

attribute [local go_sem ↓] old_ldi old_lds old_lde3 old_eqen old_neen
attribute [local go_sem] oldC_forall isC1_ptr isS1_ptr c1V_ptr isE3_ptr e3V_ptr isEv_agg evEq_agg eta_ent
set_option maxRecDepth 10000 in
set_option maxHeartbeats 4000000 in
theorem lawAlone (L : Fold10) (S : List (List Ent)) (l : List Ent) (n : Nat) (a a2 : Option Addr) (cap cap2 : Nat) (W : World) (hg : Env W) (hk : Stk W a cap S) (h : Ents W a2 cap2 l) (hn : n < 256) : Calls Try.prog 8 #[.slice a S.length cap, .slice a2 l.length cap2, .int .u8 (n : Int)] W fun e w' => e = .returned (.bool true) ∧ Below W.heap.size W w' := by
  have HS0 := Lib.hid (st10_self hg)
  have HK := Lib.hid hk
  have HE := Lib.hid h
  clear hg hk h
  by_cases hf : FewOK S
  · have hF1 : (if FewOK S then (1 : Int) else 0) = 1 := if_pos hf
    have HSS := Lib.hid (few_sm hf)
    clear hf
    by_cases hz : SizeOK l
    · have hZ1 : (if SizeOK l then (1 : Int) else 0) = 1 := if_pos hz
      have HSm := Lib.hid (sm_size hz)
      clear hz
      by_cases hr : RightL l
      · have hr1 := decide_eq_true hr
        have HR := Lib.hid hr
        clear hr
        have HT := Lib.hid (stV_tree S)
        have HTS := Lib.hid (stV_sm S)
        obtain ⟨t, ht⟩ : ∃ t, stV S = t := ⟨_, rfl⟩
        have HTE := Lib.hid ht
        rw [ht] at HT HTS
        clear ht
        have HO := Lib.hid (ov_right HT.out.1 (by have := HT.out.2; omega) HR.out)
        obtain ⟨x, hx⟩ : ∃ x, over t l = x := ⟨_, rfl⟩
        rw [hx] at HO
        have HX := Lib.hid hx
        have HXL := Lib.hid (show x.length ≤ 640 by
          rw [← hx]
          have h1 := over_len l t
          have h2 := HR.out.1
          have h3 := HT.out.2
          omega)
        clear hx
        go_enter Try.func8, Try.ntmps8
        go_wp2_with fail
        refine (awake10 L _ HS0.out.env).mono ?_
        rintro e w1 ⟨rfl, hb⟩
        have HS1 := Lib.hid (HS0.out.next hb)
        replace HK := Lib.hid (HK.out.below hb)
        replace HE := Lib.hid (HE.out.below hb)
        clear hb
        go_wp2_with fail
        refine (few10 S a cap _ HK.out).mono ?_
        rintro e w9 ⟨rfl, rfl⟩
        rw [hF1]
        go_wp2_with fail
        refine (size9 l a2 cap2 _ HE.out).mono ?_
        rintro e w9 ⟨rfl, rfl⟩
        rw [hZ1]
        go_wp2_with fail
        refine (L.right l a2 cap2 _ HS1.out.env HE.out HSm.out).mono ?_
        rintro e w2 ⟨rfl, hb⟩
        have HS2 := Lib.hid (HS1.out.next hb)
        replace HK := Lib.hid (HK.out.below hb)
        replace HE := Lib.hid (HE.out.below hb)
        clear hb
        rw [hr1]
        go_wp2_with fail
        refine (L.stack S a cap _ HS2.out.env HK.out HSS.out.1 HSS.out.2).mono ?_
        rintro e w3 ⟨a3, cap3, rfl, h3, hb⟩
        have HS3 := Lib.hid (HS2.out.next hb)
        replace HE := Lib.hid (HE.out.below hb)
        have HE3 := Lib.hid h3
        clear h3
        clear hb
        rw [HTE.out] at HE3 ⊢
        by_cases h0 : t.length = 0
        · have h0' : ((t.length : Int) == 0) = true := by rw [h0]; rfl
          have h0'' : t = [] := List.length_eq_zero_iff.1 h0
          clear h0
          go_wp2
          go_ret
          exact ⟨by first | rfl | simp, HS3.out.below⟩
        · have h0' : ((t.length : Int) == 0) = false := by rw [beq_eq_false_iff_ne]; omega
          have h1 : (0 : Int) < (t.length : Int) := by omega
          have hne : ¬ t = [] := fun e9 => h0 (by rw [e9]; rfl)
          have hi : n % t.length < t.length := Nat.mod_lt _ (by omega)
          obtain ⟨b, off, e9, _, hc⟩ := Ents.at HE3.out (Below.refl _ _) hi
          have HYM := Lib.hid (List.getElem_mem hi)
          obtain ⟨y, hy⟩ : ∃ y, t[n % t.length] = y := ⟨_, rfl⟩
          rw [hy] at hc HYM
          clear hy
          cases e9
          have c0 := hc.c0
          have c1 := hc.c1
          have c2 := hc.c2
          clear hc h0
          have hb : Below w3.heap.size w3 (w3.alloc (.cells #[.string y.1, .int .i64 y.2.1, .string y.2.2] 34)) := (Below.refl _ _).alloc (Nat.le_refl _) _
          have hq := enAt_new w3 y.1 y.2.1 y.2.2
          obtain ⟨w4, hw4⟩ : ∃ w4, w3.alloc (.cells #[.string y.1, .int .i64 y.2.1, .string y.2.2] 34) = w4 := ⟨_, rfl⟩
          obtain ⟨M4, hM4⟩ : ∃ M4, w3.heap.size = M4 := ⟨_, rfl⟩
          rw [hw4] at hb hq
          rw [hM4] at hq
          have HS4 := Lib.hid (HS3.out.next hb)
          replace HE := Lib.hid (HE.out.below hb)
          replace HE3 := Lib.hid (HE3.out.below hb)
          have HQy := Lib.hid hq
          clear hb hq
          go_wp2
          go_loopg [9] l.length (fun g i wx => ∃ m : Nat, i = .int .i64 (m : Int) ∧ m + g = l.length ∧ Hid (∀ z ∈ l.take m, pl y ≠ pl z ∧ und (pl y) (pl z) = false) ∧ Hid (Below w4.heap.size w4 wx))
          case atStart => exact ⟨0, rfl, by omega, by intro z hz; simp at hz, Below.refl _ _⟩
          case round =>
            obtain ⟨m, rfl, hm, HI, HB⟩ := hrel
            have hwm : IntKind.i64.wrap ((m : Int) + 1) = (m : Int) + 1 := IntWalk.i64_in _ (by have := HR.out.1; omega)
            by_cases hlt : m < l.length
            · have hlt' : (m : Int) < (l.length : Int) := by omega
              obtain ⟨b', off', e9, _, hc⟩ := Ents.at HE.out HB.out hlt
              have HTK := Lib.hid (take_get l m hlt)
              have HZR := Lib.hid (HR.out.2.1 _ (List.getElem_mem hlt))
              obtain ⟨z, hz⟩ : ∃ z, l[m] = z := ⟨_, rfl⟩
              rw [hz] at hc HTK HZR
              clear hz
              cases e9
              have d0 := hc.c0
              have y0 := (HQy.out.below HB.out).c0
              clear hc
              have HU : Hid (∀ w', OldC wr w' → Calls Try.prog 21 #[.string y.1, .string z.1] w' fun e w'' => e = .returned (.bool (und (pl y) (pl z))) ∧ OldC wr w'') := fun w' hw' => by
                obtain ⟨p1, p2⟩ := rE_isP HZR.out
                obtain ⟨q1, _⟩ := rE_isP (HT.out.1.1.1 y HYM.out)
                refine (refUnd y.1 z.1 (by have := isP_len p1; rw [← Lib.size_eq] at this; omega) w').mono ?_
                rintro e w'' ⟨rfl, rfl⟩
                exact ⟨by rw [upx_und q1 p1 p2], hw'⟩
              obtain ⟨uv, huv⟩ : ∃ uv, und (pl y) (pl z) = uv := ⟨_, rfl⟩
              rw [huv] at HU
              by_cases hyz : pl z = pl y
              · have gp : (z.1.toList == y.1.toList) = true := by rw [Lib.toList_data, Lib.toList_data, beq_iff_eq]; exact hyz
                clear hyz huv
                go_wp2_with fail
                refine wp_region_old (by kernel_rfl) (by kernel_rfl) ?_
                repeat (go_big_quiet_step ((first | (intro hw; with_reducible exact HU.out _ hw))))
                refine wpQuiet_nil ?_
                intro w8 hb
                have HS8 := Lib.hid ((HS4.out.next HB.out).old hb)
                clear hb
                go_wp2
                go_ret
                exact ⟨by first | rfl | simp, HS8.out.below⟩
              · have gp : (z.1.toList == y.1.toList) = false := by rw [Lib.toList_data, Lib.toList_data, beq_eq_false_iff_ne]; exact hyz
                cases uv with
                | true =>
                  clear hyz huv
                  go_wp2_with fail
                  refine wp_region_old (by kernel_rfl) (by kernel_rfl) ?_
                  repeat (go_big_quiet_step ((first | (intro hw; with_reducible exact HU.out _ hw))))
                  refine wpQuiet_nil ?_
                  intro w8 hb
                  have HS8 := Lib.hid ((HS4.out.next HB.out).old hb)
                  clear hb
                  go_wp2
                  go_ret
                  exact ⟨by first | rfl | simp, HS8.out.below⟩
                | false =>
                  have HN : Hid (∀ z ∈ l.take (m + 1), pl y ≠ pl z ∧ und (pl y) (pl z) = false) := fun v hv => by
                    rw [HTK.out] at hv
                    rcases List.mem_append.1 hv with hv | hv
                    · exact HI.out v hv
                    · obtain rfl : v = z := by simpa using hv
                      exact ⟨fun e9 => hyz e9.symm, huv⟩
                  clear hyz huv
                  go_wp2_with fail
                  refine wp_region_old (by kernel_rfl) (by kernel_rfl) ?_
                  repeat (go_big_quiet_step ((first | (intro hw; with_reducible exact HU.out _ hw))))
                  refine wpQuiet_nil ?_
                  intro w8 hb
                  have HB8 := Lib.hid (show Below w4.heap.size w4 w8 from HB.out.trans (Below.mono hb HB.out.size))
                  clear hb
                  go_wp2
                  go_roundg (gk - 1)
                  case measure => omega
                  case rel => exact ⟨m + 1, by simp, by omega, HN.out, HB8.out⟩
            · have hlt' : ¬ (m : Int) < (l.length : Int) := by omega
              have HIN := Lib.hid (show y ∈ x by
                rw [← HX.out]
                refine over_keeps HR.out.2.1 HR.out.2.2.1 HYM.out fun z hz => HI.out z ?_
                rw [List.take_of_length_le (by omega)]
                exact hz)
              have hb := HB.out
              have HS5 := Lib.hid (HS4.out.next hb)
              replace HE := Lib.hid (HE.out.below hb)
              replace HE3 := Lib.hid (HE3.out.below hb)
              replace HQy := Lib.hid (HQy.out.below hb)
              clear hb
              go_wp2_with fail
              refine (L.over t l _ cap3 a2 cap2 _ HS5.out.env HE3.out HE.out HTS.out HSm.out).mono ?_
              rintro e w6 ⟨a6, cap6, rfl, h6, hb⟩
              have HS6 := Lib.hid (HS5.out.next hb)
              replace HQy := Lib.hid (HQy.out.below hb)
              have HE6 := Lib.hid h6
              clear h6
              clear hb
              rw [HO.out] at HE6 ⊢
              go_wp2
              go_loopg [11] x.length (fun g i wx => ∃ k : Nat, i = .int .i64 (k : Int) ∧ k + g = x.length ∧ Hid (y ∉ x.take k) ∧ Hid (Below w6.heap.size w6 wx))
              case atStart => exact ⟨0, rfl, by omega, by simp [Hid], Below.refl _ _⟩
              case round =>
                obtain ⟨k, rfl, hk, HIK, HBK⟩ := hrel
                have hwk : IntKind.i64.wrap ((k : Int) + 1) = (k : Int) + 1 := IntWalk.i64_in _ (by have := HXL.out; omega)
                by_cases hkl : k < x.length
                · have hkl' : (k : Int) < (x.length : Int) := by omega
                  obtain ⟨b', off', e9, _, hc⟩ := Ents.at HE6.out HBK.out hkl
                  have HTK := Lib.hid (take_get x k hkl)
                  obtain ⟨v, hv⟩ : ∃ v, x[k] = v := ⟨_, rfl⟩
                  rw [hv] at hc HTK
                  clear hv
                  cases e9
                  have d0 := hc.c0
                  have d1 := hc.c1
                  have d2 := hc.c2
                  have y0 := (HQy.out.below HBK.out).c0
                  have y1 := (HQy.out.below HBK.out).c1
                  have y2 := (HQy.out.below HBK.out).c2
                  clear hc
                  by_cases hvy : v = y
                  · have gv : decide (v = y) = true := decide_eq_true hvy
                    clear hvy
                    go_wp2_with fail
                    refine wp_region_old (by kernel_rfl) (by kernel_rfl) ?_
                    repeat (go_big_quiet_step (fail))
                    refine wpQuiet_nil ?_
                    intro w8 hb
                    have HS8 := Lib.hid ((HS6.out.next HBK.out).old hb)
                    clear hb
                    go_wp2
                    go_ret
                    exact ⟨by first | rfl | simp, HS8.out.below⟩
                  · have gv : decide (v = y) = false := decide_eq_false hvy
                    have HN : Hid (y ∉ x.take (k + 1)) := fun hm9 => by
                      rw [HTK.out] at hm9
                      rcases List.mem_append.1 hm9 with h9 | h9
                      · exact HIK.out h9
                      · exact hvy (by simpa using h9 : y = v).symm
                    clear hvy
                    go_wp2_with fail
                    refine wp_region_old (by kernel_rfl) (by kernel_rfl) ?_
                    repeat (go_big_quiet_step (fail))
                    refine wpQuiet_nil ?_
                    intro w8 hb
                    have HB8 := Lib.hid (show Below w6.heap.size w6 w8 from HBK.out.trans (Below.mono hb HBK.out.size))
                    clear hb
                    go_wp2
                    go_roundg (x.length - (k + 1))
                    case measure => omega
                    case rel => exact ⟨k + 1, by simp, by omega, HN.out, HB8.out⟩
                · exact absurd HIN.out (by have := HIK.out; rw [List.take_of_length_le (by omega)] at this; exact this)
      · have hr1 := decide_eq_false hr
        clear hr
        go_enter Try.func8, Try.ntmps8
        go_wp2_with fail
        refine (awake10 L _ HS0.out.env).mono ?_
        rintro e w1 ⟨rfl, hb⟩
        have HS1 := Lib.hid (HS0.out.next hb)
        replace HK := Lib.hid (HK.out.below hb)
        replace HE := Lib.hid (HE.out.below hb)
        clear hb
        go_wp2_with fail
        refine (few10 S a cap _ HK.out).mono ?_
        rintro e w9 ⟨rfl, rfl⟩
        rw [hF1]
        go_wp2_with fail
        refine (size9 l a2 cap2 _ HE.out).mono ?_
        rintro e w9 ⟨rfl, rfl⟩
        rw [hZ1]
        go_wp2_with fail
        refine (L.right l a2 cap2 _ HS1.out.env HE.out HSm.out).mono ?_
        rintro e w2 ⟨rfl, hb⟩
        have HS2 := Lib.hid (HS1.out.next hb)
        clear hb
        rw [hr1]
        go_wp2_with fail
        refine (awake10 L _ HS2.out.env).mono ?_
        rintro e w3 ⟨rfl, hb⟩
        have HS3 := Lib.hid (HS2.out.next hb)
        clear hb
        go_wp2
        go_ret
        exact ⟨by first | rfl | simp, HS3.out.below⟩
    · have hZ1 : (if SizeOK l then (1 : Int) else 0) = 0 := if_neg hz
      clear hz
      go_enter Try.func8, Try.ntmps8
      go_wp2_with fail
      refine (awake10 L _ HS0.out.env).mono ?_
      rintro e w1 ⟨rfl, hb⟩
      have HS1 := Lib.hid (HS0.out.next hb)
      replace HK := Lib.hid (HK.out.below hb)
      replace HE := Lib.hid (HE.out.below hb)
      clear hb
      go_wp2_with fail
      refine (few10 S a cap _ HK.out).mono ?_
      rintro e w9 ⟨rfl, rfl⟩
      rw [hF1]
      go_wp2_with fail
      refine (size9 l a2 cap2 _ HE.out).mono ?_
      rintro e w9 ⟨rfl, rfl⟩
      rw [hZ1]
      go_wp2_with fail
      refine (awake10 L _ HS1.out.env).mono ?_
      rintro e w2 ⟨rfl, hb⟩
      have HS2 := Lib.hid (HS1.out.next hb)
      clear hb
      go_wp2
      go_ret
      exact ⟨by first | rfl | simp, HS2.out.below⟩
  · have hF1 : (if FewOK S then (1 : Int) else 0) = 0 := if_neg hf
    clear hf
    go_enter Try.func8, Try.ntmps8
    go_wp2_with fail
    refine (awake10 L _ HS0.out.env).mono ?_
    rintro e w1 ⟨rfl, hb⟩
    have HS1 := Lib.hid (HS0.out.next hb)
    replace HK := Lib.hid (HK.out.below hb)
    replace HE := Lib.hid (HE.out.below hb)
    clear hb
    go_wp2_with fail
    refine (few10 S a cap _ HK.out).mono ?_
    rintro e w9 ⟨rfl, rfl⟩
    rw [hF1]
    go_wp2_with fail
    refine (awake10 L _ HS1.out.env).mono ?_
    rintro e w2 ⟨rfl, hb⟩
    have HS2 := Lib.hid (HS1.out.next hb)
    clear hb
    go_wp2
    go_ret
    exact ⟨by first | rfl | simp, HS2.out.below⟩
end Go.Proofs.Ytkannambildnoaa
