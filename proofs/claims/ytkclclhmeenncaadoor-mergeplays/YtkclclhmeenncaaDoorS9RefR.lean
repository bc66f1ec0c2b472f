/-
  The contract of the document's own Right of a layer (package shaleref09). Condition: the list lies in memory, has at most 1000 entries, their paths at most 100000 bytes.
-/
import Derived.Test.YtkclclhmeenncaaDoorS8Ref
import Derived.Test.YtkclclhmeenncaaDoorPh
import Derived.Test.YtkclclhmeenncaaDoorS9Par
import Derived.Test.YtkclclhmeenncaaDoorPc
namespace Go.Proofs.YtkclclhmeenncaaDoor
open Go.RowKit

theorem inD_take (l : List Ent) (e : Ent) (j : Nat) (h : j < l.length) : inD (l.take (j + 1)) e ↔ inD (l.take j) e ∨ (pl l[j] = par9 (pl e) ∧ hd l[j] = true) := by
  rw [take_get l j h]
  unfold inD
  simp only [List.mem_append, List.mem_singleton]
  constructor
  · rintro (h1 | ⟨d, h1 | rfl, h2⟩)
    · exact .inl (.inl h1)
    · exact .inl (.inr ⟨d, h1, h2⟩)
    · exact .inr h2
  · rintro ((h1 | ⟨d, h1, h2⟩) | h2)
    · exact .inl h1
    · exact .inr ⟨d, .inl h1, h2⟩
    · exact .inr ⟨_, .inr rfl, h2⟩
theorem last_take (l : List Ent) (k : Nat) (h : k < l.length) (h0 : 0 < k) : (l.take k).getLast? = some (l[k - 1]'(by omega)) := by
  rw [List.getLast?_eq_getElem?, List.length_take, Nat.min_eq_left (by omega), List.getElem?_take_of_lt (by omega), List.getElem?_eq_getElem]
attribute [local go_sem ↓] old_ldi old_lds old_lde3
attribute [local go_sem] oldC_forall isC1_ptr isS1_ptr c1V_ptr isE3_ptr e3V_ptr
set_option maxRecDepth 10000 in
set_option maxHeartbeats 4000000 in
theorem refRight9 (l : List Ent) (a : Option Addr) (cap : Nat) (w : World) (h : Ents w a cap l) (hl : l.length ≤ 1000) (hz : ∀ e ∈ l, e.1.size ≤ 100000) : Calls Tryd.prog 7 #[.slice a l.length cap] w fun e w' => e = .returned (.bool (decide (RightL l))) ∧ Below w.heap.size w w' := by
  obtain ⟨R, hR⟩ : ∃ R, decide (RightL l) = R := ⟨_, rfl⟩
  rw [hR]
  have HR := Lib.hid hR
  have HE := Lib.hid h
  have HL := Lib.hid hl
  have HZ := Lib.hid hz
  clear hR h hl hz
  go_enter Tryd.func7, Tryd.ntmps7
  go_wp2
  go_loopg [3] l.length (fun g i wx => ∃ k : Nat, i = .int .i64 (k : Int) ∧ k + g = l.length ∧ Hid (RL (l.take k)) ∧ Hid (Below w.heap.size w wx))
  case atStart => exact ⟨0, rfl, by omega, by simpa [Hid] using rl_nil, Below.refl _ _⟩
  case round =>
    obtain ⟨k, rfl, hk, HI, HB⟩ := hrel
    by_cases hlt : k < l.length
    · have hlt' : (k : Int) < (l.length : Int) := by omega
      obtain ⟨b, off, rfl, hb, hc⟩ := HE.out.at HB.out hlt
      have HT := Lib.hid (show l.take (k + 1) = l.take k ++ [l[k]] from take_get l k hlt)
      have HX := Lib.hid (HZ.out _ (List.getElem_mem hlt))
      obtain ⟨x, hx⟩ : ∃ x, l[k] = x := ⟨_, rfl⟩
      rw [hx] at hc HT HX
      have HXK := Lib.hid hx
      have c0 := hc.c0
      have c1 := hc.c1
      have c2 := hc.c2
      have H1 : Hid (∀ w0 w', OldC w0 w' → Calls Tryd.prog 15 #[enV x] w' fun e w'' => e = .returned (.bool (rE x)) ∧ OldC w0 w'') := fun w0 w' hw' => by
        refine (refRight_any x.1 x.2.1 x.2.2 HX.out w').mono ?_
        rintro e w'' ⟨rfl, hb⟩
        exact ⟨rfl, hw'.then hb⟩
      clear hc hx hb
      obtain ⟨v, hv⟩ : ∃ v, rE x = v := ⟨_, rfl⟩
      rw [hv] at H1
      have HRV := Lib.hid hv
      clear hv
      have bad : ∀ (P : Prop), (RL (l.take (k + 1)) → False) → R = false := fun _ h => by
        rw [← HR.out, decide_eq_false]
        exact fun h2 => h (rl_take h2.2 _)
      have HBad := Lib.hid bad
      clear bad
      cases v with
      | false =>
        have HV := Lib.hid (show R = false from HBad.out True fun h => by
          rw [HT.out, rl_snoc] at h
          have := h.2.1
          rw [HRV.out] at this
          cases this)
        go_wp2_with fail
        refine wp_region_old (by kernel_rfl) (by kernel_rfl) ?_
        repeat (go_big_quiet_step ((first | (intro hw; with_reducible exact H1.out _ _ hw))))
        refine wpQuiet_nil ?_
        intro w9 hw9
        have HB9 := Lib.hid (show Below w.heap.size w w9 from HB.out.trans (Below.mono hw9 HB.out.size))
        clear hw9
        go_wp2
        go_ret
        exact ⟨by rw [HV.out]; rfl, HB9.out⟩
      | true =>
        have H3 : Hid (∀ w0 w', OldC w0 w' → Calls Tryd.prog 17 #[.string x.1] w' fun e w'' => e = .returned (.string (bs (par9 (pl x)))) ∧ OldC w0 w'') := fun w0 w' hw' => by
          obtain ⟨p1, p2⟩ := rE_isP HRV.out
          refine (refPar9 x.1 p1 p2 w').mono ?_
          rintro e w'' ⟨rfl, hb⟩
          exact ⟨rfl, hw'.then hb⟩
        obtain ⟨q, hq⟩ : ∃ q, bs (par9 (pl x)) = q := ⟨_, rfl⟩
        rw [hq] at H3
        have HQ := Lib.hid (show q.data.toList = par9 (pl x) by rw [← hq, bs_list])
        clear hq
        have way : (∃ k' y, Hid (k' + 1 = k) ∧ IntKind.i64.wrap ((k : Int) - 1) = (k' : Int) ∧ decide (0 < k) = true ∧ (k' : Int) < (l.length : Int) ∧ EnCells wr b (off + k' * 3) y ∧ Hid (∀ a, (l.take k).getLast? = some a ↔ a = y) ∧ Hid (y.1.size ≤ 100000)) ∨ (decide (0 < k) = false ∧ Hid ((l.take k).getLast? = none)) := by
          by_cases h0 : 0 < k
          · left
            have hk1 : k - 1 < l.length := by omega
            obtain ⟨b', off', e1, _, hc'⟩ := HE.out.at HB.out hk1
            cases e1
            refine ⟨k - 1, l[k - 1], by show k - 1 + 1 = k; omega, ?_, decide_eq_true h0, by omega, hc', fun a => ?_, HZ.out _ (List.getElem_mem hk1)⟩
            · rw [show (k : Int) - 1 = ((k - 1 : Nat) : Int) by omega]
              exact IntWalk.i64_in _ (by have := HL.out; omega)
            · rw [last_take l k hlt h0]
              simp [eq_comm]
          · right
            have : k = 0 := by omega
            subst this
            exact ⟨rfl, by simp [Hid]⟩
        rcases way with ⟨k', y, HK1, hwk, h0, hk'l, hcy, HLA, HYZ⟩ | ⟨h0, HLA⟩
        · have d0 := hcy.c0
          have H2 : Hid (∀ w0 w', OldC w0 w' → Calls Tryd.prog 16 #[.string y.1, .string x.1] w' fun e w'' => e = .returned (.bool (lt8 (pl y) (pl x))) ∧ OldC w0 w'') := fun w0 w' hw' => by
            refine (refLess_any y.1 x.1 HYZ.out HX.out w').mono ?_
            rintro e w'' ⟨rfl, hb⟩
            exact ⟨rfl, hw'.then hb⟩
          obtain ⟨v2, hv2⟩ : ∃ v2, lt8 (pl y) (pl x) = v2 := ⟨_, rfl⟩
          rw [hv2] at H2
          have HRV2 := Lib.hid hv2
          clear hv2 hcy
          cases v2 with
          | false =>
            have HV := Lib.hid (show R = false from HBad.out True fun h => by
              rw [HT.out, rl_snoc] at h
              have := h.2.2.1 y ((HLA.out y).2 rfl)
              rw [HRV2.out] at this
              cases this)
            go_wp2_with fail
            refine wp_region_old (by kernel_rfl) (by kernel_rfl) ?_
            repeat (go_big_quiet_step ((first | (intro hw; with_reducible exact H1.out _ _ hw) | (intro hw; with_reducible exact H2.out _ _ hw))))
            refine wpQuiet_nil ?_
            intro w9 hw9
            have HB9 := Lib.hid (show Below w.heap.size w w9 from HB.out.trans (Below.mono hw9 HB.out.size))
            clear hw9
            go_wp2
            go_ret
            exact ⟨by rw [HV.out]; rfl, HB9.out⟩
          | true =>
            have HA := Lib.hid (show ∀ a, (l.take k).getLast? = some a → lt8 (pl a) (pl x) = true from fun a ha => by
              rw [HLA.out] at ha
              rw [ha]
              exact HRV2.out)
            go_wp2_with fail
            refine wp_region_old (by kernel_rfl) (by kernel_rfl) ?_
            repeat (go_big_quiet_step ((first | (intro hw; with_reducible exact H1.out _ _ hw) | (intro hw; with_reducible exact H2.out _ _ hw))))
            refine wpQuiet_nil ?_
            intro w9 hw9
            have HB9 := Lib.hid (show Below w.heap.size w w9 from HB.out.trans (Below.mono hw9 HB.out.size))
            have hcx := HE.out.at HB9.out hlt
            rw [HXK.out] at hcx
            obtain ⟨b', off', e1, _, hcx⟩ := hcx
            cases e1
            have x0 := hcx.c0
            clear hw9 hcx c0 c1 c2
            go_wp2_with fail
            refine (H3.out _ _ (OldC.self _)).mono ?_
            rintro e w3 ⟨rfl, hb3⟩
            have HB3 := Lib.hid (show Below w.heap.size w w3 from HB9.out.trans (Below.mono hb3 HB9.out.size))
            have HF0 := Lib.hid (show (q.toList == [47]) = decide (inD (l.take 0) x) by
              rw [eq_slash, HQ.out]
              unfold inD
              simp)
            clear hb3 x0
            go_wp2
            go_loopg [4, 5] k (fun g f i wx => ∃ (j : Nat) (z : Bool), f = .bool z ∧ i = .int .i64 (j : Int) ∧ j + g = k ∧ Hid (z = decide (inD (l.take j) x)) ∧ Hid (Below w.heap.size w wx))
            case atStart => exact ⟨0, _, rfl, rfl, by omega, HF0.out, HB3.out⟩
            case round =>
              obtain ⟨j, z, rfl, rfl, hj, HF, HBJ⟩ := hrel
              by_cases hjk : j < k
              · have hjk' : (j : Int) < (k : Int) := by omega
                have hjl : j < l.length := by omega
                have hjl' : (j : Int) < (l.length : Int) := by omega
                have hwj : IntKind.i64.wrap ((j : Int) + 1) = (j : Int) + 1 := IntWalk.i64_in _ (by have := HL.out; omega)
                have HIN := Lib.hid (inD_take l x j hjl)
                have hcx := HE.out.at HBJ.out hlt
                have hcy := HE.out.at HBJ.out hjl
                rw [HXK.out] at hcx
                obtain ⟨u, hu⟩ : ∃ u, l[j] = u := ⟨_, rfl⟩
                rw [hu] at hcy HIN
                obtain ⟨b', off', e1, _, hcx⟩ := hcx
                cases e1
                obtain ⟨b', off', e1, _, hcy⟩ := hcy
                cases e1
                have x0 := hcx.c0
                have u0 := hcy.c0
                have u1 := hcy.c1
                clear hcx hcy hu
                have ways : ∃ z', Hid (z' = decide (inD (l.take (j + 1)) x)) ∧ ((z = true ∧ z' = true) ∨ (z = false ∧ (u.1.toList == q.toList) = false ∧ z' = false) ∨ (z = false ∧ (u.1.toList == q.toList) = true ∧ (u.2.1 == 2) = true ∧ z' = true) ∨ (z = false ∧ (u.1.toList == q.toList) = true ∧ (u.2.1 == 2) = false ∧ (u.2.1 == 4) = true ∧ z' = true) ∨ (z = false ∧ (u.1.toList == q.toList) = true ∧ (u.2.1 == 2) = false ∧ (u.2.1 == 4) = false ∧ z' = false)) := by
                  have hq2 : (u.1.toList == q.toList) = decide (pl u = par9 (pl x)) := by rw [Lib.toList_data, Lib.toList_data, HQ.out, Bool.eq_iff_iff, beq_iff_eq, decide_eq_true_iff]
                  have hz2 : decide (inD (l.take (j + 1)) x) = (z || (decide (pl u = par9 (pl x)) && hd u)) := by
                    rw [Bool.eq_iff_iff, decide_eq_true_iff, HIN.out, Bool.or_eq_true, HF.out, decide_eq_true_iff, Bool.and_eq_true, decide_eq_true_iff]
                  refine ⟨_, rfl, ?_⟩
                  rw [hz2, hq2]
                  unfold hd
                  cases z with
                  | true => exact .inl ⟨rfl, rfl⟩
                  | false =>
                    cases decide (pl u = par9 (pl x)) with
                    | false => exact .inr (.inl ⟨rfl, rfl, rfl⟩)
                    | true =>
                      cases (u.2.1 == 2) with
                      | true => exact .inr (.inr (.inl ⟨rfl, rfl, rfl, rfl⟩))
                      | false =>
                        cases (u.2.1 == 4) with
                        | true => exact .inr (.inr (.inr (.inl ⟨rfl, rfl, rfl, rfl, rfl⟩)))
                        | false => exact .inr (.inr (.inr (.inr ⟨rfl, rfl, rfl, rfl, rfl⟩)))
                obtain ⟨z', HZ', ways⟩ := ways
                clear HIN HF
                rcases ways with ⟨rfl, rfl⟩ | ⟨rfl, s1, rfl⟩ | ⟨rfl, s1, s2, rfl⟩ | ⟨rfl, s1, s2, s3, rfl⟩ | ⟨rfl, s1, s2, s3, rfl⟩
                all_goals
                  go_wp2_with fail
                  refine wp_region_old (by kernel_rfl) (by kernel_rfl) ?_
                  repeat (go_big_quiet_step ((first | (intro hw; with_reducible exact H3.out _ _ hw))))
                  refine wpQuiet_nil ?_
                  intro w8 hw8
                  have HB8 := Lib.hid (show Below w.heap.size w w8 from HBJ.out.trans (Below.mono hw8 HBJ.out.size))
                  clear hw8
                  go_wp2
                  go_roundg (k - (j + 1))
                  case measure => omega
                  case rel => exact ⟨j + 1, _, rfl, by simp, by omega, HZ'.out, HB8.out⟩
              · have hjk' : ¬ (j : Int) < (k : Int) := by omega
                have e : j = k := by omega
                subst e
                cases z with
                | true =>
                  have HN := Lib.hid (show RL (l.take (j + 1)) by
                    rw [HT.out, rl_snoc]
                    exact ⟨HI.out, HRV.out, HA.out, of_decide_eq_true HF.out.symm⟩)
                  have hwk2 : IntKind.i64.wrap ((j : Int) + 1) = (j : Int) + 1 := IntWalk.i64_in _ (by have := HL.out; omega)
                  go_wp2
                  go_roundg (l.length - (j + 1))
                  case measure => omega
                  case rel => exact ⟨j + 1, by simp, by omega, HN.out, HBJ.out⟩
                | false =>
                  have HV := Lib.hid (show R = false from HBad.out True fun h => by
                    rw [HT.out, rl_snoc] at h
                    exact of_decide_eq_false HF.out.symm h.2.2.2)
                  go_wp2
                  go_ret
                  exact ⟨by rw [HV.out]; rfl, HBJ.out⟩
        · have HA := Lib.hid (show ∀ a, (l.take k).getLast? = some a → lt8 (pl a) (pl x) = true from fun a ha => by
            rw [HLA.out] at ha
            cases ha)
          go_wp2_with fail
          refine wp_region_old (by kernel_rfl) (by kernel_rfl) ?_
          repeat (go_big_quiet_step ((first | (intro hw; with_reducible exact H1.out _ _ hw))))
          refine wpQuiet_nil ?_
          intro w9 hw9
          have HB9 := Lib.hid (show Below w.heap.size w w9 from HB.out.trans (Below.mono hw9 HB.out.size))
          have hcx := HE.out.at HB9.out hlt
          rw [HXK.out] at hcx
          obtain ⟨b', off', e1, _, hcx⟩ := hcx
          cases e1
          have x0 := hcx.c0
          clear hw9 hcx c0 c1 c2
          go_wp2_with fail
          refine (H3.out _ _ (OldC.self _)).mono ?_
          rintro e w3 ⟨rfl, hb3⟩
          have HB3 := Lib.hid (show Below w.heap.size w w3 from HB9.out.trans (Below.mono hb3 HB9.out.size))
          have HF0 := Lib.hid (show (q.toList == [47]) = decide (inD (l.take 0) x) by
            rw [eq_slash, HQ.out]
            unfold inD
            simp)
          clear hb3 x0
          go_wp2
          go_loopg [4, 5] k (fun g f i wx => ∃ (j : Nat) (z : Bool), f = .bool z ∧ i = .int .i64 (j : Int) ∧ j + g = k ∧ Hid (z = decide (inD (l.take j) x)) ∧ Hid (Below w.heap.size w wx))
          case atStart => exact ⟨0, _, rfl, rfl, by omega, HF0.out, HB3.out⟩
          case round =>
            obtain ⟨j, z, rfl, rfl, hj, HF, HBJ⟩ := hrel
            by_cases hjk : j < k
            · have hjk' : (j : Int) < (k : Int) := by omega
              have hjl : j < l.length := by omega
              have hjl' : (j : Int) < (l.length : Int) := by omega
              have hwj : IntKind.i64.wrap ((j : Int) + 1) = (j : Int) + 1 := IntWalk.i64_in _ (by have := HL.out; omega)
              have HIN := Lib.hid (inD_take l x j hjl)
              have hcx := HE.out.at HBJ.out hlt
              have hcy := HE.out.at HBJ.out hjl
              rw [HXK.out] at hcx
              obtain ⟨u, hu⟩ : ∃ u, l[j] = u := ⟨_, rfl⟩
              rw [hu] at hcy HIN
              obtain ⟨b', off', e1, _, hcx⟩ := hcx
              cases e1
              obtain ⟨b', off', e1, _, hcy⟩ := hcy
              cases e1
              have x0 := hcx.c0
              have u0 := hcy.c0
              have u1 := hcy.c1
              clear hcx hcy hu
              have ways : ∃ z', Hid (z' = decide (inD (l.take (j + 1)) x)) ∧ ((z = true ∧ z' = true) ∨ (z = false ∧ (u.1.toList == q.toList) = false ∧ z' = false) ∨ (z = false ∧ (u.1.toList == q.toList) = true ∧ (u.2.1 == 2) = true ∧ z' = true) ∨ (z = false ∧ (u.1.toList == q.toList) = true ∧ (u.2.1 == 2) = false ∧ (u.2.1 == 4) = true ∧ z' = true) ∨ (z = false ∧ (u.1.toList == q.toList) = true ∧ (u.2.1 == 2) = false ∧ (u.2.1 == 4) = false ∧ z' = false)) := by
                have hq2 : (u.1.toList == q.toList) = decide (pl u = par9 (pl x)) := by rw [Lib.toList_data, Lib.toList_data, HQ.out, Bool.eq_iff_iff, beq_iff_eq, decide_eq_true_iff]
                have hz2 : decide (inD (l.take (j + 1)) x) = (z || (decide (pl u = par9 (pl x)) && hd u)) := by
                  rw [Bool.eq_iff_iff, decide_eq_true_iff, HIN.out, Bool.or_eq_true, HF.out, decide_eq_true_iff, Bool.and_eq_true, decide_eq_true_iff]
                refine ⟨_, rfl, ?_⟩
                rw [hz2, hq2]
                unfold hd
                cases z with
                | true => exact .inl ⟨rfl, rfl⟩
                | false =>
                  cases decide (pl u = par9 (pl x)) with
                  | false => exact .inr (.inl ⟨rfl, rfl, rfl⟩)
                  | true =>
                    cases (u.2.1 == 2) with
                    | true => exact .inr (.inr (.inl ⟨rfl, rfl, rfl, rfl⟩))
                    | false =>
                      cases (u.2.1 == 4) with
                      | true => exact .inr (.inr (.inr (.inl ⟨rfl, rfl, rfl, rfl, rfl⟩)))
                      | false => exact .inr (.inr (.inr (.inr ⟨rfl, rfl, rfl, rfl, rfl⟩)))
              obtain ⟨z', HZ', ways⟩ := ways
              clear HIN HF
              rcases ways with ⟨rfl, rfl⟩ | ⟨rfl, s1, rfl⟩ | ⟨rfl, s1, s2, rfl⟩ | ⟨rfl, s1, s2, s3, rfl⟩ | ⟨rfl, s1, s2, s3, rfl⟩
              all_goals
                go_wp2_with fail
                refine wp_region_old (by kernel_rfl) (by kernel_rfl) ?_
                repeat (go_big_quiet_step ((first | (intro hw; with_reducible exact H3.out _ _ hw))))
                refine wpQuiet_nil ?_
                intro w8 hw8
                have HB8 := Lib.hid (show Below w.heap.size w w8 from HBJ.out.trans (Below.mono hw8 HBJ.out.size))
                clear hw8
                go_wp2
                go_roundg (k - (j + 1))
                case measure => omega
                case rel => exact ⟨j + 1, _, rfl, by simp, by omega, HZ'.out, HB8.out⟩
            · have hjk' : ¬ (j : Int) < (k : Int) := by omega
              have e : j = k := by omega
              subst e
              cases z with
              | true =>
                have HN := Lib.hid (show RL (l.take (j + 1)) by
                  rw [HT.out, rl_snoc]
                  exact ⟨HI.out, HRV.out, HA.out, of_decide_eq_true HF.out.symm⟩)
                have hwk2 : IntKind.i64.wrap ((j : Int) + 1) = (j : Int) + 1 := IntWalk.i64_in _ (by have := HL.out; omega)
                go_wp2
                go_roundg (l.length - (j + 1))
                case measure => omega
                case rel => exact ⟨j + 1, by simp, by omega, HN.out, HBJ.out⟩
              | false =>
                have HV := Lib.hid (show R = false from HBad.out True fun h => by
                  rw [HT.out, rl_snoc] at h
                  exact of_decide_eq_false HF.out.symm h.2.2.2)
                go_wp2
                go_ret
                exact ⟨by rw [HV.out]; rfl, HBJ.out⟩
    · have hlt' : ¬ (k : Int) < (l.length : Int) := by omega
      have HV := Lib.hid (show R = decide (l.length ≤ 64) by
        have := HI.out
        rw [List.take_of_length_le (by omega)] at this
        rw [← HR.out]
        unfold RightL
        simp [this])
      go_wp2
      go_ret
      exact ⟨by rw [HV.out]; first | rfl | (simp; done) | (simp; omega), HB.out⟩
end Go.Proofs.YtkclclhmeenncaaDoor
