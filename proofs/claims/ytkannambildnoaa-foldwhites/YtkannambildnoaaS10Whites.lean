/-
  The law FoldWhites walked over Fold10: for every stack and text it returns true and changes nothing that was there. Conditions: package fold answers as Fold10 says; the stack lies in memory.
-/
import Derived.Test.YtkannambildnoaaPkb5
namespace Go.Proofs.Ytkannambildnoaa
open Go.RowKit

theorem rst_take10 (t : List Ent) (p : List UInt8) (n : Nat) (h : n < t.length) : rst (t.take (n + 1)) p = rst (t.take n) p ++ (if (!und (pl t[n]) p && decide (pl t[n] ≠ p)) then [t[n]] else []) := filter_take _ n h
theorem rst_at10 (t : List Ent) (p : List UInt8) (n : Nat) (h : n < t.length) (hu : (!und (pl t[n]) p && decide (pl t[n] ≠ p)) = true) : (rst t p)[(rst (t.take n) p).length]? = some t[n] := by
  have e : rst t p = rst (t.take n) p ++ rst (t.drop n) p := by
    unfold rst
    rw [← List.filter_append, List.take_append_drop]
  rw [e, List.getElem?_append_right (Nat.le_refl _), Nat.sub_self, List.drop_eq_getElem_cons h]
  unfold rst
  rw [List.filter_cons, if_pos hu]
  rfl
attribute [local go_sem ↓] old_ldi old_lds old_lde3 old_eqen old_neen
attribute [local go_sem] oldC_forall isC1_ptr isS1_ptr c1V_ptr isE3_ptr e3V_ptr isEv_agg evEq_agg eta_ent
set_option maxRecDepth 10000 in
set_option maxHeartbeats 4000000 in
theorem lawWhites (L : Fold10) (S : List (List Ent)) (s : ByteArray) (a : Option Addr) (cap : Nat) (W : World) (hg : Env W) (hk : Stk W a cap S) : Calls Try.prog 6 #[.slice a S.length cap, .string s] W fun e w' => e = .returned (.bool true) ∧ Below W.heap.size W w' := by
  have HS0 := Lib.hid (st10_self hg)
  have HK := Lib.hid hk
  clear hg hk
  by_cases hf : FewOK S
  · have hF1 : (if FewOK S then (1 : Int) else 0) = 1 := if_pos hf
    have HSS := Lib.hid (few_sm hf)
    clear hf
    by_cases hz : (50 : Int) < (s.size : Int)
    · skip
      go_enter Try.func6, Try.ntmps6
      go_wp2_with fail
      refine (awake10 L _ HS0.out.env).mono ?_
      rintro e w1 ⟨rfl, hb⟩
      have HS1 := Lib.hid (HS0.out.next hb)
      replace HK := Lib.hid (HK.out.below hb)
      clear hb
      go_wp2_with fail
      refine (few10 S a cap _ HK.out).mono ?_
      rintro e w9 ⟨rfl, rfl⟩
      rw [hF1]
      go_wp2_with fail
      refine (awake10 L _ HS1.out.env).mono ?_
      rintro e w2 ⟨rfl, hb⟩
      have HS2 := Lib.hid (HS1.out.next hb)
      clear hb
      go_wp2
      go_ret
      exact ⟨by first | rfl | simp, HS2.out.below⟩
    · have HZ := Lib.hid (show s.size ≤ 50 by omega)
      have z1 : ¬ 9223372036854775807 < 1 + s.size := by omega
      obtain ⟨q, hq⟩ : ∃ q, (⟨#[47]⟩ : ByteArray) ++ s = q := ⟨_, rfl⟩
      have HQS := Lib.hid (show q.size = s.size + 1 by rw [← hq, ByteArray.size_append]; show 1 + s.size = _; omega)
      have z2 : ¬ 9223372036854775807 < q.size + 1 := by have := HQS.out; omega
      have HT := Lib.hid (stV_tree S)
      have HTS := Lib.hid (stV_sm S)
      obtain ⟨t, ht⟩ : ∃ t, stV S = t := ⟨_, rfl⟩
      have HTE := Lib.hid ht
      rw [ht] at HT HTS
      clear ht
      have HYS := Lib.hid (show Sm [((q, 3, ⟨#[]⟩) : Ent)] from ⟨by simp, fun e he => by
        obtain rfl : e = _ := by simpa using he
        have := HQS.out
        have := HZ.out
        exact ⟨by show q.size ≤ _; omega, show (0 : Nat) ≤ 100000 by decide⟩⟩)
      go_enter Try.func6, Try.ntmps6
      go_wp2_with fail
      refine (awake10 L _ HS0.out.env).mono ?_
      rintro e w1 ⟨rfl, hb⟩
      have HS1 := Lib.hid (HS0.out.next hb)
      replace HK := Lib.hid (HK.out.below hb)
      clear hb
      go_wp2_with fail
      refine (few10 S a cap _ HK.out).mono ?_
      rintro e w9 ⟨rfl, rfl⟩
      rw [hF1]
      have hb : Below w1.heap.size w1 (w1.alloc (.cells #[.string q, .int .i64 3, .string ⟨#[]⟩] 34)) := (Below.refl _ _).alloc (Nat.le_refl _) _
      have hq2 := ents_block (cap := 1) (heap_alloc_new w1 (.cells #[.string q, .int .i64 3, .string ⟨#[]⟩] 34)) (show _ = [((q, 3, ⟨#[]⟩) : Ent)].flatMap enc from rfl) (by simp)
      obtain ⟨w2, hw2⟩ : ∃ w2, w1.alloc (.cells #[.string q, .int .i64 3, .string ⟨#[]⟩] 34) = w2 := ⟨_, rfl⟩
      obtain ⟨M, hM⟩ : ∃ M, w1.heap.size = M := ⟨_, rfl⟩
      rw [hw2] at hb hq2
      rw [hM] at hq2
      have HS2 := Lib.hid (HS1.out.next hb)
      replace HK := Lib.hid (HK.out.below hb)
      have HE := Lib.hid hq2
      clear hb hq2
      go_wp2_with fail
      refine (L.stack S a cap _ HS2.out.env HK.out HSS.out.1 HSS.out.2).mono ?_
      rintro e w3 ⟨a3, cap3, rfl, h3, hb⟩
      have HS3 := Lib.hid (HS2.out.next hb)
      replace HE := Lib.hid (HE.out.below hb)
      have HE3 := Lib.hid h3
      clear h3
      clear hb
      rw [HTE.out] at HE3 ⊢
      clear hw2 hM
      go_wp2_with fail
      refine (L.right _ _ 1 _ HS3.out.env HE.out HYS.out).mono ?_
      rintro e w4 ⟨rfl, hb⟩
      have HS4 := Lib.hid (HS3.out.next hb)
      replace HE := Lib.hid (HE.out.below hb)
      replace HE3 := Lib.hid (HE3.out.below hb)
      clear hb
      by_cases hr : RightL [((q, 3, ⟨#[]⟩) : Ent)]
      · have HRR := Lib.hid hr
        rw [decide_eq_true hr]
        have HO := Lib.hid (show ovV t [((q, 3, ⟨#[]⟩) : Ent)] = rst t q.data.toList by rw [ov_right HT.out.1 (by have := HT.out.2; omega) hr]; exact over_white t q _)
        clear hr
        go_wp2_with fail
        refine (L.over t _ a3 cap3 _ 1 _ HS4.out.env HE3.out HE.out HTS.out HYS.out).mono ?_
        rintro e w5 ⟨a5, cap5, rfl, h5, hb⟩
        have HS5 := Lib.hid (HS4.out.next hb)
        replace HE3 := Lib.hid (HE3.out.below hb)
        have HE5 := Lib.hid h5
        clear h5
        clear hb
        rw [HO.out] at HE5 ⊢
        have HLX := Lib.hid (show (rst t q.data.toList).length ≤ 576 from Nat.le_trans (len_rst _ _) HT.out.2)
        go_wp2
        go_loopg [8, 9] t.length (fun g kv i wx => ∃ (n k : Nat), kv = .int .i64 (k : Int) ∧ i = .int .i64 (n : Int) ∧ n + g = t.length ∧ Hid (k = (rst (t.take n) q.data.toList).length) ∧ Hid (Below w5.heap.size w5 wx))
        case atStart => exact ⟨0, 0, rfl, rfl, by omega, by simp [Hid, rst], Below.refl _ _⟩
        case round =>
          obtain ⟨n, k, rfl, rfl, hn, HKK, HB⟩ := hrel
          have HK5 := Lib.hid (show k ≤ 576 by
            have h1 := len_rst (t.take n) q.data.toList
            have := HT.out.2
            have := HKK.out
            rw [List.length_take] at h1
            omega)
          by_cases hlt : n < t.length
          · have hlt' : (n : Int) < (t.length : Int) := by omega
            have hwn : IntKind.i64.wrap ((n : Int) + 1) = (n : Int) + 1 := IntWalk.i64_in _ (by have := HT.out.2; omega)
            have hwk : IntKind.i64.wrap ((k : Int) + 1) = (k : Int) + 1 := IntWalk.i64_in _ (by have := HK5.out; omega)
            have hw1 : IntKind.i64.wrap ((s.size : Int) + 1) = (s.size : Int) + 1 := IntWalk.i64_in _ (by have := HZ.out; omega)
            have hw2 : IntKind.i64.wrap ((s.size : Int) + 2) = (s.size : Int) + 2 := IntWalk.i64_in _ (by have := HZ.out; omega)
            obtain ⟨b, off, e9, _, hc⟩ := Ents.at HE3.out HB.out hlt
            have HRT := Lib.hid (rst_take10 t q.data.toList n hlt)
            have HAT := Lib.hid (rst_at10 t q.data.toList n hlt)
            have HZR := Lib.hid (HT.out.1.1.1 _ (List.getElem_mem hlt))
            obtain ⟨z, hz9⟩ : ∃ z, t[n] = z := ⟨_, rfl⟩
            rw [hz9] at hc HRT HAT HZR
            clear hz9
            cases e9
            have c0 := hc.c0
            have c1 := hc.c1
            have c2 := hc.c2
            clear hc
            have hU : und (pl z) q.data.toList = upx (pl z) q.data.toList := by
              obtain ⟨p1, p2⟩ := rE_isP (HRR.out.2.1 ((q, 3, ⟨#[]⟩) : Ent) (by simp))
              obtain ⟨q1, _⟩ := rE_isP HZR.out
              exact (upx_und q1 p1 p2).symm
            have hE : (z.1.toList == q.toList) = decide (pl z = q.data.toList) := by rw [Lib.toList_data, Lib.toList_data, Bool.eq_iff_iff, beq_iff_eq, decide_eq_true_iff]
            have hX : ((z.1.extract 0 (s.size + 2)).toList == (q ++ ⟨#[47]⟩).toList) = upx (pl z) q.data.toList := by
              rw [upx_take, Bool.eq_iff_iff, beq_iff_eq, decide_eq_true_iff, Lib.toList_data, Lib.toList_data, ← Lib.size_eq, HQS.out]
              simp [ByteArray.data_append]
            have ways : (rst (t.take (n + 1)) q.data.toList = rst (t.take n) q.data.toList ∧ ((z.1.toList == q.toList) = true ∨ ((z.1.toList == q.toList) = false ∧ (s.size : Int) + 1 < (z.1.size : Int) ∧ ((z.1.extract 0 (s.size + 2)).toList == (q ++ ⟨#[47]⟩).toList) = true))) ∨ ((rst (t.take (n + 1)) q.data.toList = rst (t.take n) q.data.toList ++ [z] ∧ (rst t q.data.toList)[(rst (t.take n) q.data.toList).length]? = some z) ∧ (z.1.toList == q.toList) = false ∧ ((s.size : Int) + 1 < (z.1.size : Int) ∧ ((z.1.extract 0 (s.size + 2)).toList == (q ++ ⟨#[47]⟩).toList) = false ∨ ¬ (s.size : Int) + 1 < (z.1.size : Int))) := by
              rw [hE, hX]
              have hr9 := HRT.out
              have ha9 := HAT.out
              rw [hU] at hr9 ha9
              by_cases h1 : pl z = q.data.toList
              · exact .inl ⟨by rw [hr9, if_neg (by simp [h1]), List.append_nil], .inl (decide_eq_true h1)⟩
              · rw [decide_eq_false h1]
                cases h2 : upx (pl z) q.data.toList with
                | true =>
                  refine .inl ⟨by rw [hr9, if_neg (by simp [h2]), List.append_nil], .inr ⟨rfl, ?_, rfl⟩⟩
                  by_cases h3 : q.data.toList.length < (pl z).length
                  · rw [← Lib.size_eq, ← Lib.size_eq, HQS.out] at h3
                    omega
                  · rw [upx_long h3] at h2
                    cases h2
                | false =>
                  have hkeep : (!upx (pl z) q.data.toList && decide (pl z ≠ q.data.toList)) = true := by simp [h1, h2]
                  refine .inr ⟨⟨by rw [hr9, if_pos hkeep], ha9 hkeep⟩, rfl, ?_⟩
                  by_cases h3 : (s.size : Int) + 1 < (z.1.size : Int)
                  · exact .inl ⟨h3, rfl⟩
                  · exact .inr h3
            clear hU hE hX HRT HAT
            rcases ways with ⟨hN, hway⟩ | ⟨⟨hN, hA⟩, g1, hway⟩
            · have HKN := Lib.hid (show k = (rst (t.take (n + 1)) q.data.toList).length by rw [hN]; exact HKK.out)
              clear hN
              rcases hway with g1 | ⟨g1, g2, g3⟩
              · have hle : (s.size : Int) + 2 ≤ (s.size : Int) + 2 := by omega
                go_wp2
                go_roundg (gk - 1)
                case measure => omega
                case rel => exact ⟨n + 1, k, rfl, by simp, by omega, HKN.out, HB.out⟩
              · have hle : (s.size : Int) + 2 ≤ (z.1.size : Int) := by omega
                go_wp2
                go_roundg (gk - 1)
                case measure => omega
                case rel => exact ⟨n + 1, k, rfl, by simp, by omega, HKN.out, HB.out⟩
            · have HKN := Lib.hid (show k + 1 = (rst (t.take (n + 1)) q.data.toList).length by rw [hN, List.length_append, ← HKK.out]; rfl)
              rw [← HKK.out] at hA
              obtain ⟨hkx, hxk⟩ := List.getElem?_eq_some_iff.1 hA
              obtain ⟨b', off', e9, _, hc⟩ := Ents.at HE5.out HB.out hkx
              rw [hxk] at hc
              cases e9
              have d0 := hc.c0
              have d1 := hc.c1
              have d2 := hc.c2
              have hkx' : (k : Int) < ((rst t q.data.toList).length : Int) := by omega
              have hge : decide ((rst t q.data.toList).length ≤ k) = false := decide_eq_false (by omega)
              have hge2 : ¬ ((rst t q.data.toList).length : Int) ≤ (k : Int) := by omega
              have hzz : decide (z = z) = true := decide_eq_true rfl
              clear hc hN hA hxk
              rcases hway with ⟨g2, g3⟩ | g2
              · have hle : (s.size : Int) + 2 ≤ (z.1.size : Int) := by omega
                go_wp2_with fail
                refine wp_region_old (by kernel_rfl) (by kernel_rfl) ?_
                repeat (go_big_quiet_step (fail))
                refine wpQuiet_nil ?_
                intro w8 hb
                have HB8 := Lib.hid (show Below w5.heap.size w5 w8 from HB.out.trans (Below.mono hb HB.out.size))
                clear hb
                go_wp2
                go_roundg (gk - 1)
                case measure => omega
                case rel => exact ⟨n + 1, k + 1, by simp, by simp, by omega, HKN.out, HB8.out⟩
              · have hle : True := trivial
                go_wp2_with fail
                refine wp_region_old (by kernel_rfl) (by kernel_rfl) ?_
                repeat (go_big_quiet_step (fail))
                refine wpQuiet_nil ?_
                intro w8 hb
                have HB8 := Lib.hid (show Below w5.heap.size w5 w8 from HB.out.trans (Below.mono hb HB.out.size))
                clear hb
                go_wp2
                go_roundg (gk - 1)
                case measure => omega
                case rel => exact ⟨n + 1, k + 1, by simp, by simp, by omega, HKN.out, HB8.out⟩
          · have hlt' : ¬ (n : Int) < (t.length : Int) := by omega
            have hkk : ((k : Int) == ((rst t q.data.toList).length : Int)) = true := by rw [HKK.out, List.take_of_length_le (by omega)]; simp
            have HS9 := Lib.hid (HS5.out.next HB.out)
            go_wp2
            go_ret
            exact ⟨by first | rfl | simp | (rw [hkk]), HS9.out.below⟩
      · rw [decide_eq_false hr]
        have HO := Lib.hid (ov_bad (t := t) hr)
        clear hr
        go_wp2_with fail
        refine (L.over t _ a3 cap3 _ 1 _ HS4.out.env HE3.out HE.out HTS.out HYS.out).mono ?_
        rintro e w5 ⟨a5, cap5, rfl, _, hb⟩
        have HS5 := Lib.hid (HS4.out.next hb)
        clear hb
        rw [HO.out]
        go_wp2
        go_ret
        exact ⟨by first | rfl | simp, HS5.out.below⟩
  · have hF1 : (if FewOK S then (1 : Int) else 0) = 0 := if_neg hf
    clear hf
    go_enter Try.func6, Try.ntmps6
    go_wp2_with fail
    refine (awake10 L _ HS0.out.env).mono ?_
    rintro e w1 ⟨rfl, hb⟩
    have HS1 := Lib.hid (HS0.out.next hb)
    replace HK := Lib.hid (HK.out.below hb)
    clear hb
    go_wp2_with fail
    refine (few10 S a cap _ HK.out).mono ?_
    rintro e w9 ⟨rfl, rfl⟩
    rw [hF1]
    go_wp2_with fail
    refine (awake10 L _ HS1.out.env).mono ?_
    rintro e w2 ⟨rfl, hb⟩
    have HS2 := Lib.hid (HS1.out.next hb)
    clear hb
    go_wp2
    go_ret
    exact ⟨by first | rfl | simp, HS2.out.below⟩
end Go.Proofs.Ytkannambildnoaa
