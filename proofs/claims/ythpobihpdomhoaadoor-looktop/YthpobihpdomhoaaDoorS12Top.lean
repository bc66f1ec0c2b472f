/-
  The law LookTop walked over Look12: for every stack and text it returns true and changes nothing that was there. Conditions: package look answers as Look12 says; the stack lies in memory; errorType holds error's type.
-/
import Derived.Test.YthpobihpdomhoaaDoorS12Awake
import Derived.Test.YthpobihpdomhoaaDoorS12Few
import Derived.Test.YthpobihpdomhoaaDoorS12FdEq
import Derived.Test.YthpobihpdomhoaaDoorStkApp
import Derived.IntWalk
namespace Go.Proofs.YthpobihpdomhoaaDoor
open Go.RowKit

theorem lk_empty {S : List (List Ent)} (h8 : S.length ≤ 8) (p : List UInt8) : lkV (([] ++ S) ++ [[]]) p = lkV S p ∧ (lkV ([[]] ++ S) p).1 = (lkV S p).1 ∧ ((lkV S p).1 = 0 → (lkV ([[]] ++ S) p).2 = ((lkV S p).2.1, if p = [47] then 0 else (lkV S p).2.2 + 1)) := by
  have e1 : LkOK (([] ++ S) ++ [[]]) ↔ LkOK S := by
    rw [List.nil_append]
    refine ⟨fun h => ⟨by omega, fun l hl => h.2 l (List.mem_append_left _ hl)⟩, fun h => ⟨by simp; omega, fun l hl => ?_⟩⟩
    rcases List.mem_append.1 hl with hl | hl
    · exact h.2 l hl
    · obtain rfl : l = [] := by simpa using hl
      exact right_nil
  have e2 : LkOK ([[]] ++ S) ↔ LkOK S := by
    refine ⟨fun h => ⟨by omega, fun l hl => h.2 l (List.mem_append_right _ hl)⟩, fun h => ⟨by simp; omega, fun l hl => ?_⟩⟩
    rcases List.mem_append.1 hl with hl | hl
    · obtain rfl : l = [] := by simpa using hl
      exact right_nil
    · exact h.2 l hl
  by_cases hS : LkOK S
  · rw [lkV_ok (e1.2 hS), lkV_ok (e2.2 hS), lkV_ok hS, List.nil_append, at_snoc_nil]
    refine ⟨rfl, ?_⟩
    by_cases hp : isP p
    · obtain ⟨h1, h2, h3⟩ := at_cons_nil S p hp
      exact ⟨h1, fun h0 => Prod.ext h2 (h3 h0)⟩
    · rw [show atS ([[]] ++ S) p = (2, noE, 0) from atS_bad hp, show atS S p = (2, noE, 0) from atS_bad hp]
      exact ⟨rfl, fun h => by cases h⟩
  · rw [lkV_bad (mt e1.1 hS), lkV_bad (mt e2.1 hS), lkV_bad hS]
    exact ⟨rfl, rfl, fun h => by cases h⟩
theorem lk_nine {S : List (List Ent)} {p : List UInt8} (h : (lkV S p).1 = 0) : (lkV S p).2.2 ≤ 9 := by
  obtain ⟨h1, h2⟩ := lkV_zero h
  rw [lkV_ok h1] at h ⊢
  by_cases hr : p = [47]
  · subst hr
    rw [atS_root]
    exact Nat.zero_le _
  · have := (floor_par h2 hr h).2
    have := h1.1
    omega
theorem sm_snoc {S : List (List Ent)} (h : ∀ l ∈ S, Sm l) {l : List Ent} (hl : Sm l) : ∀ x ∈ ([] ++ S) ++ [l], Sm x := fun x hx => by
  rw [List.nil_append] at hx
  rcases List.mem_append.1 hx with hx | hx
  · exact h x hx
  · obtain rfl : x = l := by simpa using hx
    exact hl
attribute [local go_sem ↓] eqw_fd new_fd eqw_en new_en
attribute [local go_sem] isFv_agg isFv_zero fvEq_agg fvEq_zero eta_fd isEv_agg evEq_agg eta_ent
set_option maxRecDepth 10000 in
set_option maxHeartbeats 8000000 in
theorem lawTop12 (L : Look12) (S : List (List Ent)) (p : ByteArray) (a : Option Addr) (cap : Nat) (W : World) (hg : EtLaid W) (hk : Stk W a cap S) : Calls Tryd.prog 5 #[.slice a S.length cap, .string p] W fun e w' => e = .returned (.bool true) ∧ Below W.heap.size W w' := by
  have HS0 := Lib.hid (st_self hg)
  have HK := Lib.hid hk
  clear hg hk
  by_cases hf : FewOK S
  · have hF1 : (if FewOK S then (1 : Int) else 0) = 1 := if_pos hf
    have HFW := Lib.hid hf
    have HSS := Lib.hid (few_sm12 hf)
    clear hf
    by_cases hp : (100 : Int) < (p.size : Int)
    · go_enter Tryd.func5, Tryd.ntmps5
      go_wp2_with fail
      refine (awake12 L _ HS0.out.et).mono ?_
      rintro e w1 ⟨rfl, hb⟩
      have HS1 := Lib.hid (HS0.out.next hb)
      replace HK := Lib.hid (HK.out.below hb)
      clear hb
      go_wp2_with fail
      refine (few10 S a cap _ HK.out).mono ?_
      rintro e w9 ⟨rfl, rfl⟩
      rw [hF1]
      go_wp2_with fail
      refine (awake12 L _ HS1.out.et).mono ?_
      rintro e w2 ⟨rfl, hb⟩
      have HS2 := Lib.hid (HS1.out.next hb)
      replace HK := Lib.hid (HK.out.below hb)
      clear hb
      go_wp2
      go_ret
      exact ⟨by first | rfl | simp, HS2.out.below⟩
    · have HPZ := Lib.hid (show p.size ≤ 100 by omega)
      by_cases h8 : (8 : Int) < (S.length : Int)
      · have g8 : (8 : Int) < (S.length : Int) := h8
        go_enter Tryd.func5, Tryd.ntmps5
        go_wp2_with fail
        refine (awake12 L _ HS0.out.et).mono ?_
        rintro e w1 ⟨rfl, hb⟩
        have HS1 := Lib.hid (HS0.out.next hb)
        replace HK := Lib.hid (HK.out.below hb)
        clear hb
        go_wp2_with fail
        refine (few10 S a cap _ HK.out).mono ?_
        rintro e w9 ⟨rfl, rfl⟩
        rw [hF1]
        go_wp2_with fail
        refine (awake12 L _ HS1.out.et).mono ?_
        rintro e w2 ⟨rfl, hb⟩
        have HS2 := Lib.hid (HS1.out.next hb)
        replace HK := Lib.hid (HK.out.below hb)
        clear hb
        go_wp2
        go_ret
        exact ⟨by first | rfl | simp, HS2.out.below⟩
      · have hs8 : S.length ≤ 8 := by omega
        obtain ⟨ks, kc0, kc1⟩ := lk_empty hs8 p.data.toList
        have HLT1 := Lib.hid (show (([] ++ S) ++ [([] : List Ent)]).length = S.length + 1 by simp)
        have HLT2 := Lib.hid (show ([([] : List Ent)] ++ S).length = S.length + 1 by simp)
        obtain ⟨n, hn⟩ : ∃ n, (lkV S p.data.toList).1 = n := ⟨_, rfl⟩
        obtain ⟨y, hy⟩ : ∃ y, (lkV S p.data.toList).2 = y := ⟨_, rfl⟩
        obtain ⟨m, hm⟩ : ∃ n, (lkV ([[]] ++ S) p.data.toList).1 = n := ⟨_, rfl⟩
        obtain ⟨z, hz⟩ : ∃ y, (lkV ([[]] ++ S) p.data.toList).2 = y := ⟨_, rfl⟩
        rw [hm, hn] at kc0
        rw [hn, hz, hy] at kc1
        have HAT : Hid (∀ w, EtLaid w → Stk w a cap S → Calls Tryd.prog 10 #[.slice a S.length cap, .string p] w fun e w' => ∃ er, e = .returned (.tuple #[fdnV y, er]) ∧ Er w' n er ∧ Below w.heap.size w w') := fun w h1 h2 => by
          have := L S a cap p w h1 h2 HSS.out.1 HSS.out.2 (by have := HPZ.out; omega)
          rw [hn, hy] at this
          exact this
        have HAT1 : Hid (∀ w a' c', EtLaid w → Stk w a' c' (([] ++ S) ++ [([] : List Ent)]) → Calls Tryd.prog 10 #[.slice a' (S.length + 1) c', .string p] w fun e w' => ∃ er, e = .returned (.tuple #[fdnV y, er]) ∧ Er w' n er ∧ Below w.heap.size w w') := fun w a' c' h1 h2 => by
          have := L _ a' c' p w h1 h2 (by rw [HLT1.out]; omega) (sm_snoc HSS.out.2 sm_nil) (by have := HPZ.out; omega)
          rw [ks, HLT1.out, hn, hy] at this
          exact this
        have HAT2 : Hid (∀ w a' c', EtLaid w → Stk w a' c' ([([] : List Ent)] ++ S) → Calls Tryd.prog 10 #[.slice a' (S.length + 1) c', .string p] w fun e w' => ∃ er, e = .returned (.tuple #[fdnV z, er]) ∧ Er w' m er ∧ Below w.heap.size w w') := fun w a' c' h1 h2 => by
          have := L _ a' c' p w h1 h2 (by rw [HLT2.out]; omega) (fun l hl => by
            rcases List.mem_append.1 hl with hl | hl
            · obtain rfl : l = [] := by simpa using hl
              exact sm_nil
            · exact HSS.out.2 l hl) (by have := HPZ.out; omega)
          rw [HLT2.out, hm, hz] at this
          exact this
        have HY9 := Lib.hid (fun h => show y.2 ≤ 9 by rw [← hy]; exact lk_nine (by rw [hn]; exact h))
        clear hs8 ks hn hy hm hz
        have kc2 := kc0.symm
        clear kc0
        subst kc2
        have HKC := Lib.hid kc1
        clear kc1
        by_cases h0 : n = 0
        · subst h0
          by_cases hr : p.data.toList = [47]
          · have HZ := Lib.hid (show z = (y.1, 0) by
              have := HKC.out rfl
              rw [if_pos hr] at this
              exact this)
            have k1 : (p.toList == [47]) = true := by rw [Lib.toList_data, beq_iff_eq]; exact hr
            have k2 : (p.toList != [47]) = false := by rw [bne, k1]; rfl
            clear hr
            go_enter Tryd.func5, Tryd.ntmps5
            go_wp2_with fail
            refine (awake12 L _ HS0.out.et).mono ?_
            rintro e w1 ⟨rfl, hb⟩
            have HS1 := Lib.hid (HS0.out.next hb)
            replace HK := Lib.hid (HK.out.below hb)
            clear hb
            go_wp2_with fail
            refine (few10 S a cap _ HK.out).mono ?_
            rintro e w9 ⟨rfl, rfl⟩
            rw [hF1]
            go_wp2_with fail
            refine (HAT.out _ HS1.out.et HK.out).mono ?_
            rintro e w2 ⟨er1, rfl, e9, hb⟩
            have Her1 := Lib.hid e9
            clear e9
            have HS2 := Lib.hid (HS1.out.next hb)
            replace HK := Lib.hid (HK.out.below hb)
            clear hb
            obtain ⟨Va, w3, Ma, hVa, hMa, hUa, hv, hu, hb⟩ := fd_box w2 y
            have v0 := hv.c0
            have v1 := hv.c1
            have v2 := hv.c2
            have v3 := hv.c3
            have vf0 := hv.f0
            have vf1 := hv.f1
            have vf2 := hv.f2
            have vf3 := hv.f3
            have Ha := Lib.hid hu
            clear hv hu
            have HS3 := Lib.hid (HS2.out.next hb)
            replace HK := Lib.hid (HK.out.below hb)
            replace Her1 := Lib.hid (Her1.out.below hb)
            clear hb
            have hbz : Below w3.heap.size w3 (w3.alloc (.cells #[] 42)) := (Below.refl _ _).alloc (Nat.le_refl _) _
            obtain ⟨hsS, HSR⟩ := src_old HK.out hbz
            go_wp2_with (at_builtin; refine Stopped.go ?_)
            unfold Stopped
            refine wl_catS (by rfl) _ _ (by rfl) w3 _ [] S (by rfl) (ownS_new w3 w3 (Nat.le_refl _)) hbz a cap (by rfl) hsS HSR (by have := HSS.out.1; simp; omega) ?_
            intro va wa hoa hba _
            have HOA := Lib.hid hoa
            have HBA := Lib.hid hba
            clear hbz HSR hoa hba
            go_wp2_with (at_builtin; refine Stopped.go ?_)
            unfold Stopped
            have hbz : Below wa.heap.size wa (wa.alloc (.cells #[.slice none 0 0] 42)) := (Below.refl _ _).alloc (Nat.le_refl _) _
            refine wl_catS (by rfl) _ _ (by rfl) w3 _ ([] ++ S) [[]] (by rfl) (HOA.out.below hbz) (HBA.out.trans (hbz.mono HBA.out.size)) (some ⟨wa.heap.size, 0, none⟩) 1 (by rfl) _ (src_one (a := none) (cap := 0) (l := []) (ents_nil _ _ _) (by simp)) (by have := HSS.out.1; simp; omega) ?_
            intro vb w4 hob hb _
            obtain ⟨ak, ck, rfl, hkk⟩ := stk_of_ownS hob hb
            have HTk := Lib.hid hkk
            clear hbz hob hkk HOA HBA
            rw [HLT1.out]
            have HS4 := Lib.hid (HS3.out.next hb)
            replace HK := Lib.hid (HK.out.below hb)
            replace Her1 := Lib.hid (Her1.out.below hb)
            replace Ha := Lib.hid (Ha.out.below hb)
            clear hb
            clear v0 v1 v2 v3 vf0 vf1 vf2 vf3 hVa hMa hUa
            go_wp2_with fail
            refine (HAT1.out _ _ _ HS4.out.et HTk.out).mono ?_
            rintro e w5 ⟨er2, rfl, e9, hb⟩
            have Her2 := Lib.hid e9
            clear e9
            have HS5 := Lib.hid (HS4.out.next hb)
            replace HK := Lib.hid (HK.out.below hb)
            replace Her1 := Lib.hid (Her1.out.below hb)
            replace Ha := Lib.hid (Ha.out.below hb)
            replace HTk := Lib.hid (HTk.out.below hb)
            clear hb
            obtain ⟨Vb, w6, Mb, hVb, hMb, hUb, hv, hu, hb⟩ := fd_box w5 y
            have v0 := hv.c0
            have v1 := hv.c1
            have v2 := hv.c2
            have v3 := hv.c3
            have vf0 := hv.f0
            have vf1 := hv.f1
            have vf2 := hv.f2
            have vf3 := hv.f3
            have Hb := Lib.hid hu
            clear hv hu
            have HS6 := Lib.hid (HS5.out.next hb)
            replace HK := Lib.hid (HK.out.below hb)
            replace Her1 := Lib.hid (Her1.out.below hb)
            replace Ha := Lib.hid (Ha.out.below hb)
            replace HTk := Lib.hid (HTk.out.below hb)
            replace Her2 := Lib.hid (Her2.out.below hb)
            clear hb
            have hbz : Below w6.heap.size w6 (w6.alloc (.cells #[.slice none 0 0] 42)) := (Below.refl _ _).alloc (Nat.le_refl _) _
            obtain ⟨hsS, HSR⟩ := src_old HK.out hbz
            go_wp2_with (at_builtin; refine Stopped.go ?_)
            unfold Stopped
            refine wl_catS (by rfl) _ _ (by rfl) w6 _ [[]] S (by rfl) (ownS_one w6 w6 (Nat.le_refl _)) hbz a cap (by rfl) hsS HSR (by have := HSS.out.1; simp; omega) ?_
            intro vb w7 hob hb _
            obtain ⟨al, cl, rfl, hkl⟩ := stk_of_ownS hob hb
            have HTl := Lib.hid hkl
            clear hbz hob hkl HSR
            rw [HLT2.out]
            have HS7 := Lib.hid (HS6.out.next hb)
            replace HK := Lib.hid (HK.out.below hb)
            replace Her1 := Lib.hid (Her1.out.below hb)
            replace Ha := Lib.hid (Ha.out.below hb)
            replace HTk := Lib.hid (HTk.out.below hb)
            replace Her2 := Lib.hid (Her2.out.below hb)
            replace Hb := Lib.hid (Hb.out.below hb)
            clear hb
            clear v0 v1 v2 v3 vf0 vf1 vf2 vf3 hVb hMb hUb
            go_wp2_with fail
            refine (HAT2.out _ _ _ HS7.out.et HTl.out).mono ?_
            rintro e w8 ⟨er3, rfl, e9, hb⟩
            have Her3 := Lib.hid e9
            clear e9
            have HS8 := Lib.hid (HS7.out.next hb)
            replace HK := Lib.hid (HK.out.below hb)
            replace Her1 := Lib.hid (Her1.out.below hb)
            replace Ha := Lib.hid (Ha.out.below hb)
            replace HTk := Lib.hid (HTk.out.below hb)
            replace Her2 := Lib.hid (Her2.out.below hb)
            replace Hb := Lib.hid (Hb.out.below hb)
            replace HTl := Lib.hid (HTl.out.below hb)
            clear hb
            obtain ⟨Vc, w9, Mc, hVc, hMc, hUc, hv, hu, hb⟩ := fd_box w8 z
            have v0 := hv.c0
            have v1 := hv.c1
            have v2 := hv.c2
            have v3 := hv.c3
            have vf0 := hv.f0
            have vf1 := hv.f1
            have vf2 := hv.f2
            have vf3 := hv.f3
            have Hc := Lib.hid hu
            clear hv hu
            have HS9 := Lib.hid (HS8.out.next hb)
            replace HK := Lib.hid (HK.out.below hb)
            replace Her1 := Lib.hid (Her1.out.below hb)
            replace Ha := Lib.hid (Ha.out.below hb)
            replace HTk := Lib.hid (HTk.out.below hb)
            replace Her2 := Lib.hid (Her2.out.below hb)
            replace Hb := Lib.hid (Hb.out.below hb)
            replace HTl := Lib.hid (HTl.out.below hb)
            replace Her3 := Lib.hid (Her3.out.below hb)
            clear hb
            go_wp2_with fail
            refine (code_er _ _ _ Her1.out HS9.out.et).mono ?_
            rintro e w10 ⟨rfl, hb⟩
            replace Hc := Lib.hid (Hc.out.below hb)
            have HS10 := Lib.hid (HS9.out.next hb)
            replace HK := Lib.hid (HK.out.below hb)
            replace Her1 := Lib.hid (Her1.out.below hb)
            replace Ha := Lib.hid (Ha.out.below hb)
            replace HTk := Lib.hid (HTk.out.below hb)
            replace Her2 := Lib.hid (Her2.out.below hb)
            replace Hb := Lib.hid (Hb.out.below hb)
            replace HTl := Lib.hid (HTl.out.below hb)
            replace Her3 := Lib.hid (Her3.out.below hb)
            clear hb
            clear v0 v1 v2 v3 vf0 vf1 vf2 vf3 hVc hMc hUc
            have qc0 := Hc.out.c0
            have qc1 := Hc.out.c1
            have qc2 := Hc.out.c2
            have qc3 := Hc.out.c3
            go_wp2_with fail
            refine (code_er _ _ _ Her2.out HS10.out.et).mono ?_
            rintro e w11 ⟨rfl, hb⟩
            have HS11 := Lib.hid (HS10.out.next hb)
            replace HK := Lib.hid (HK.out.below hb)
            replace Her1 := Lib.hid (Her1.out.below hb)
            replace Ha := Lib.hid (Ha.out.below hb)
            replace HTk := Lib.hid (HTk.out.below hb)
            replace Her2 := Lib.hid (Her2.out.below hb)
            replace Hb := Lib.hid (Hb.out.below hb)
            replace HTl := Lib.hid (HTl.out.below hb)
            replace Her3 := Lib.hid (Her3.out.below hb)
            replace Hc := Lib.hid (Hc.out.below hb)
            clear qc0 qc1 qc2 qc3
            clear hb
            have qc0 := Hc.out.c0
            have qc1 := Hc.out.c1
            have qc2 := Hc.out.c2
            have qc3 := Hc.out.c3
            go_wp2_with fail
            refine (code_er _ _ _ Her3.out HS11.out.et).mono ?_
            rintro e w12 ⟨rfl, hb⟩
            have HS12 := Lib.hid (HS11.out.next hb)
            replace HK := Lib.hid (HK.out.below hb)
            replace Her1 := Lib.hid (Her1.out.below hb)
            replace Ha := Lib.hid (Ha.out.below hb)
            replace HTk := Lib.hid (HTk.out.below hb)
            replace Her2 := Lib.hid (Her2.out.below hb)
            replace Hb := Lib.hid (Hb.out.below hb)
            replace HTl := Lib.hid (HTl.out.below hb)
            replace Her3 := Lib.hid (Her3.out.below hb)
            replace Hc := Lib.hid (Hc.out.below hb)
            clear qc0 qc1 qc2 qc3
            clear hb
            have qc0 := Hc.out.c0
            have qc1 := Hc.out.c1
            have qc2 := Hc.out.c2
            have qc3 := Hc.out.c3
            try clear qc0
            try clear qc1
            try clear qc2
            try clear qc3
            obtain rfl := HZ.out
            have qa0 := Ha.out.c0
            have qa1 := Ha.out.c1
            have qa2 := Ha.out.c2
            have qa3 := Ha.out.c3
            have qb0 := Hb.out.c0
            have qb1 := Hb.out.c1
            have qb2 := Hb.out.c2
            have qb3 := Hb.out.c3
            have qc0 := Hc.out.c0
            have qc1 := Hc.out.c1
            have qc2 := Hc.out.c2
            have qc3 := Hc.out.c3
            go_wp2
            go_ret
            exact ⟨by first | rfl | simp, HS12.out.below⟩
          · have HZ := Lib.hid (show z = (y.1, y.2 + 1) by
              have := HKC.out rfl
              rw [if_neg hr] at this
              exact this)
            have k1 : (p.toList == [47]) = false := by rw [Lib.toList_data, beq_eq_false_iff_ne]; exact hr
            have k2 : (p.toList != [47]) = true := by rw [bne, k1]; rfl
            have hy9 : y.2 ≤ 9 := HY9.out rfl
            have k3 : IntKind.i64.wrap ((y.2 : Int) + 1) = (y.2 : Int) + 1 := IntWalk.i64_in _ (by omega)
            clear hr
            go_enter Tryd.func5, Tryd.ntmps5
            go_wp2_with fail
            refine (awake12 L _ HS0.out.et).mono ?_
            rintro e w1 ⟨rfl, hb⟩
            have HS1 := Lib.hid (HS0.out.next hb)
            replace HK := Lib.hid (HK.out.below hb)
            clear hb
            go_wp2_with fail
            refine (few10 S a cap _ HK.out).mono ?_
            rintro e w9 ⟨rfl, rfl⟩
            rw [hF1]
            go_wp2_with fail
            refine (HAT.out _ HS1.out.et HK.out).mono ?_
            rintro e w2 ⟨er1, rfl, e9, hb⟩
            have Her1 := Lib.hid e9
            clear e9
            have HS2 := Lib.hid (HS1.out.next hb)
            replace HK := Lib.hid (HK.out.below hb)
            clear hb
            obtain ⟨Va, w3, Ma, hVa, hMa, hUa, hv, hu, hb⟩ := fd_box w2 y
            have v0 := hv.c0
            have v1 := hv.c1
            have v2 := hv.c2
            have v3 := hv.c3
            have vf0 := hv.f0
            have vf1 := hv.f1
            have vf2 := hv.f2
            have vf3 := hv.f3
            have Ha := Lib.hid hu
            clear hv hu
            have HS3 := Lib.hid (HS2.out.next hb)
            replace HK := Lib.hid (HK.out.below hb)
            replace Her1 := Lib.hid (Her1.out.below hb)
            clear hb
            have hbz : Below w3.heap.size w3 (w3.alloc (.cells #[] 42)) := (Below.refl _ _).alloc (Nat.le_refl _) _
            obtain ⟨hsS, HSR⟩ := src_old HK.out hbz
            go_wp2_with (at_builtin; refine Stopped.go ?_)
            unfold Stopped
            refine wl_catS (by rfl) _ _ (by rfl) w3 _ [] S (by rfl) (ownS_new w3 w3 (Nat.le_refl _)) hbz a cap (by rfl) hsS HSR (by have := HSS.out.1; simp; omega) ?_
            intro va wa hoa hba _
            have HOA := Lib.hid hoa
            have HBA := Lib.hid hba
            clear hbz HSR hoa hba
            go_wp2_with (at_builtin; refine Stopped.go ?_)
            unfold Stopped
            have hbz : Below wa.heap.size wa (wa.alloc (.cells #[.slice none 0 0] 42)) := (Below.refl _ _).alloc (Nat.le_refl _) _
            refine wl_catS (by rfl) _ _ (by rfl) w3 _ ([] ++ S) [[]] (by rfl) (HOA.out.below hbz) (HBA.out.trans (hbz.mono HBA.out.size)) (some ⟨wa.heap.size, 0, none⟩) 1 (by rfl) _ (src_one (a := none) (cap := 0) (l := []) (ents_nil _ _ _) (by simp)) (by have := HSS.out.1; simp; omega) ?_
            intro vb w4 hob hb _
            obtain ⟨ak, ck, rfl, hkk⟩ := stk_of_ownS hob hb
            have HTk := Lib.hid hkk
            clear hbz hob hkk HOA HBA
            rw [HLT1.out]
            have HS4 := Lib.hid (HS3.out.next hb)
            replace HK := Lib.hid (HK.out.below hb)
            replace Her1 := Lib.hid (Her1.out.below hb)
            replace Ha := Lib.hid (Ha.out.below hb)
            clear hb
            clear v0 v1 v2 v3 vf0 vf1 vf2 vf3 hVa hMa hUa
            go_wp2_with fail
            refine (HAT1.out _ _ _ HS4.out.et HTk.out).mono ?_
            rintro e w5 ⟨er2, rfl, e9, hb⟩
            have Her2 := Lib.hid e9
            clear e9
            have HS5 := Lib.hid (HS4.out.next hb)
            replace HK := Lib.hid (HK.out.below hb)
            replace Her1 := Lib.hid (Her1.out.below hb)
            replace Ha := Lib.hid (Ha.out.below hb)
            replace HTk := Lib.hid (HTk.out.below hb)
            clear hb
            obtain ⟨Vb, w6, Mb, hVb, hMb, hUb, hv, hu, hb⟩ := fd_box w5 y
            have v0 := hv.c0
            have v1 := hv.c1
            have v2 := hv.c2
            have v3 := hv.c3
            have vf0 := hv.f0
            have vf1 := hv.f1
            have vf2 := hv.f2
            have vf3 := hv.f3
            have Hb := Lib.hid hu
            clear hv hu
            have HS6 := Lib.hid (HS5.out.next hb)
            replace HK := Lib.hid (HK.out.below hb)
            replace Her1 := Lib.hid (Her1.out.below hb)
            replace Ha := Lib.hid (Ha.out.below hb)
            replace HTk := Lib.hid (HTk.out.below hb)
            replace Her2 := Lib.hid (Her2.out.below hb)
            clear hb
            have hbz : Below w6.heap.size w6 (w6.alloc (.cells #[.slice none 0 0] 42)) := (Below.refl _ _).alloc (Nat.le_refl _) _
            obtain ⟨hsS, HSR⟩ := src_old HK.out hbz
            go_wp2_with (at_builtin; refine Stopped.go ?_)
            unfold Stopped
            refine wl_catS (by rfl) _ _ (by rfl) w6 _ [[]] S (by rfl) (ownS_one w6 w6 (Nat.le_refl _)) hbz a cap (by rfl) hsS HSR (by have := HSS.out.1; simp; omega) ?_
            intro vb w7 hob hb _
            obtain ⟨al, cl, rfl, hkl⟩ := stk_of_ownS hob hb
            have HTl := Lib.hid hkl
            clear hbz hob hkl HSR
            rw [HLT2.out]
            have HS7 := Lib.hid (HS6.out.next hb)
            replace HK := Lib.hid (HK.out.below hb)
            replace Her1 := Lib.hid (Her1.out.below hb)
            replace Ha := Lib.hid (Ha.out.below hb)
            replace HTk := Lib.hid (HTk.out.below hb)
            replace Her2 := Lib.hid (Her2.out.below hb)
            replace Hb := Lib.hid (Hb.out.below hb)
            clear hb
            clear v0 v1 v2 v3 vf0 vf1 vf2 vf3 hVb hMb hUb
            go_wp2_with fail
            refine (HAT2.out _ _ _ HS7.out.et HTl.out).mono ?_
            rintro e w8 ⟨er3, rfl, e9, hb⟩
            have Her3 := Lib.hid e9
            clear e9
            have HS8 := Lib.hid (HS7.out.next hb)
            replace HK := Lib.hid (HK.out.below hb)
            replace Her1 := Lib.hid (Her1.out.below hb)
            replace Ha := Lib.hid (Ha.out.below hb)
            replace HTk := Lib.hid (HTk.out.below hb)
            replace Her2 := Lib.hid (Her2.out.below hb)
            replace Hb := Lib.hid (Hb.out.below hb)
            replace HTl := Lib.hid (HTl.out.below hb)
            clear hb
            obtain ⟨Vc, w9, Mc, hVc, hMc, hUc, hv, hu, hb⟩ := fd_box w8 z
            have v0 := hv.c0
            have v1 := hv.c1
            have v2 := hv.c2
            have v3 := hv.c3
            have vf0 := hv.f0
            have vf1 := hv.f1
            have vf2 := hv.f2
            have vf3 := hv.f3
            have Hc := Lib.hid hu
            clear hv hu
            have HS9 := Lib.hid (HS8.out.next hb)
            replace HK := Lib.hid (HK.out.below hb)
            replace Her1 := Lib.hid (Her1.out.below hb)
            replace Ha := Lib.hid (Ha.out.below hb)
            replace HTk := Lib.hid (HTk.out.below hb)
            replace Her2 := Lib.hid (Her2.out.below hb)
            replace Hb := Lib.hid (Hb.out.below hb)
            replace HTl := Lib.hid (HTl.out.below hb)
            replace Her3 := Lib.hid (Her3.out.below hb)
            clear hb
            go_wp2_with fail
            refine (code_er _ _ _ Her1.out HS9.out.et).mono ?_
            rintro e w10 ⟨rfl, hb⟩
            replace Hc := Lib.hid (Hc.out.below hb)
            have HS10 := Lib.hid (HS9.out.next hb)
            replace HK := Lib.hid (HK.out.below hb)
            replace Her1 := Lib.hid (Her1.out.below hb)
            replace Ha := Lib.hid (Ha.out.below hb)
            replace HTk := Lib.hid (HTk.out.below hb)
            replace Her2 := Lib.hid (Her2.out.below hb)
            replace Hb := Lib.hid (Hb.out.below hb)
            replace HTl := Lib.hid (HTl.out.below hb)
            replace Her3 := Lib.hid (Her3.out.below hb)
            clear hb
            clear v0 v1 v2 v3 vf0 vf1 vf2 vf3 hVc hMc hUc
            have qc0 := Hc.out.c0
            have qc1 := Hc.out.c1
            have qc2 := Hc.out.c2
            have qc3 := Hc.out.c3
            go_wp2_with fail
            refine (code_er _ _ _ Her2.out HS10.out.et).mono ?_
            rintro e w11 ⟨rfl, hb⟩
            have HS11 := Lib.hid (HS10.out.next hb)
            replace HK := Lib.hid (HK.out.below hb)
            replace Her1 := Lib.hid (Her1.out.below hb)
            replace Ha := Lib.hid (Ha.out.below hb)
            replace HTk := Lib.hid (HTk.out.below hb)
            replace Her2 := Lib.hid (Her2.out.below hb)
            replace Hb := Lib.hid (Hb.out.below hb)
            replace HTl := Lib.hid (HTl.out.below hb)
            replace Her3 := Lib.hid (Her3.out.below hb)
            replace Hc := Lib.hid (Hc.out.below hb)
            clear qc0 qc1 qc2 qc3
            clear hb
            have qc0 := Hc.out.c0
            have qc1 := Hc.out.c1
            have qc2 := Hc.out.c2
            have qc3 := Hc.out.c3
            go_wp2_with fail
            refine (code_er _ _ _ Her3.out HS11.out.et).mono ?_
            rintro e w12 ⟨rfl, hb⟩
            have HS12 := Lib.hid (HS11.out.next hb)
            replace HK := Lib.hid (HK.out.below hb)
            replace Her1 := Lib.hid (Her1.out.below hb)
            replace Ha := Lib.hid (Ha.out.below hb)
            replace HTk := Lib.hid (HTk.out.below hb)
            replace Her2 := Lib.hid (Her2.out.below hb)
            replace Hb := Lib.hid (Hb.out.below hb)
            replace HTl := Lib.hid (HTl.out.below hb)
            replace Her3 := Lib.hid (Her3.out.below hb)
            replace Hc := Lib.hid (Hc.out.below hb)
            clear qc0 qc1 qc2 qc3
            clear hb
            have qc0 := Hc.out.c0
            have qc1 := Hc.out.c1
            have qc2 := Hc.out.c2
            have qc3 := Hc.out.c3
            try clear qc0
            try clear qc1
            try clear qc2
            try clear qc3
            obtain rfl := HZ.out
            have qa0 := Ha.out.c0
            have qa1 := Ha.out.c1
            have qa2 := Ha.out.c2
            have qa3 := Ha.out.c3
            have qb0 := Hb.out.c0
            have qb1 := Hb.out.c1
            have qb2 := Hb.out.c2
            have qb3 := Hb.out.c3
            have qc0 := Hc.out.c0
            have qc1 := Hc.out.c1
            have qc2 := Hc.out.c2
            have qc3 := Hc.out.c3
            go_wp2
            go_ret
            exact ⟨by first | rfl | simp, HS12.out.below⟩
        · have g1 : (n == 0) = false := beq_eq_false_iff_ne.2 h0
          have g2 : (n != 0) = true := by rw [bne, g1]; rfl
          have g3 : (n == n) = true := beq_iff_eq.2 rfl
          clear h0
          go_enter Tryd.func5, Tryd.ntmps5
          go_wp2_with fail
          refine (awake12 L _ HS0.out.et).mono ?_
          rintro e w1 ⟨rfl, hb⟩
          have HS1 := Lib.hid (HS0.out.next hb)
          replace HK := Lib.hid (HK.out.below hb)
          clear hb
          go_wp2_with fail
          refine (few10 S a cap _ HK.out).mono ?_
          rintro e w9 ⟨rfl, rfl⟩
          rw [hF1]
          go_wp2_with fail
          refine (HAT.out _ HS1.out.et HK.out).mono ?_
          rintro e w2 ⟨er1, rfl, e9, hb⟩
          have Her1 := Lib.hid e9
          clear e9
          have HS2 := Lib.hid (HS1.out.next hb)
          replace HK := Lib.hid (HK.out.below hb)
          clear hb
          obtain ⟨Va, w3, Ma, hVa, hMa, hUa, hv, hu, hb⟩ := fd_box w2 y
          have v0 := hv.c0
          have v1 := hv.c1
          have v2 := hv.c2
          have v3 := hv.c3
          have vf0 := hv.f0
          have vf1 := hv.f1
          have vf2 := hv.f2
          have vf3 := hv.f3
          have Ha := Lib.hid hu
          clear hv hu
          have HS3 := Lib.hid (HS2.out.next hb)
          replace HK := Lib.hid (HK.out.below hb)
          replace Her1 := Lib.hid (Her1.out.below hb)
          clear hb
          have hbz : Below w3.heap.size w3 (w3.alloc (.cells #[] 42)) := (Below.refl _ _).alloc (Nat.le_refl _) _
          obtain ⟨hsS, HSR⟩ := src_old HK.out hbz
          go_wp2_with (at_builtin; refine Stopped.go ?_)
          unfold Stopped
          refine wl_catS (by rfl) _ _ (by rfl) w3 _ [] S (by rfl) (ownS_new w3 w3 (Nat.le_refl _)) hbz a cap (by rfl) hsS HSR (by have := HSS.out.1; simp; omega) ?_
          intro va wa hoa hba _
          have HOA := Lib.hid hoa
          have HBA := Lib.hid hba
          clear hbz HSR hoa hba
          go_wp2_with (at_builtin; refine Stopped.go ?_)
          unfold Stopped
          have hbz : Below wa.heap.size wa (wa.alloc (.cells #[.slice none 0 0] 42)) := (Below.refl _ _).alloc (Nat.le_refl _) _
          refine wl_catS (by rfl) _ _ (by rfl) w3 _ ([] ++ S) [[]] (by rfl) (HOA.out.below hbz) (HBA.out.trans (hbz.mono HBA.out.size)) (some ⟨wa.heap.size, 0, none⟩) 1 (by rfl) _ (src_one (a := none) (cap := 0) (l := []) (ents_nil _ _ _) (by simp)) (by have := HSS.out.1; simp; omega) ?_
          intro vb w4 hob hb _
          obtain ⟨ak, ck, rfl, hkk⟩ := stk_of_ownS hob hb
          have HTk := Lib.hid hkk
          clear hbz hob hkk HOA HBA
          rw [HLT1.out]
          have HS4 := Lib.hid (HS3.out.next hb)
          replace HK := Lib.hid (HK.out.below hb)
          replace Her1 := Lib.hid (Her1.out.below hb)
          replace Ha := Lib.hid (Ha.out.below hb)
          clear hb
          clear v0 v1 v2 v3 vf0 vf1 vf2 vf3 hVa hMa hUa
          go_wp2_with fail
          refine (HAT1.out _ _ _ HS4.out.et HTk.out).mono ?_
          rintro e w5 ⟨er2, rfl, e9, hb⟩
          have Her2 := Lib.hid e9
          clear e9
          have HS5 := Lib.hid (HS4.out.next hb)
          replace HK := Lib.hid (HK.out.below hb)
          replace Her1 := Lib.hid (Her1.out.below hb)
          replace Ha := Lib.hid (Ha.out.below hb)
          replace HTk := Lib.hid (HTk.out.below hb)
          clear hb
          obtain ⟨Vb, w6, Mb, hVb, hMb, hUb, hv, hu, hb⟩ := fd_box w5 y
          have v0 := hv.c0
          have v1 := hv.c1
          have v2 := hv.c2
          have v3 := hv.c3
          have vf0 := hv.f0
          have vf1 := hv.f1
          have vf2 := hv.f2
          have vf3 := hv.f3
          have Hb := Lib.hid hu
          clear hv hu
          have HS6 := Lib.hid (HS5.out.next hb)
          replace HK := Lib.hid (HK.out.below hb)
          replace Her1 := Lib.hid (Her1.out.below hb)
          replace Ha := Lib.hid (Ha.out.below hb)
          replace HTk := Lib.hid (HTk.out.below hb)
          replace Her2 := Lib.hid (Her2.out.below hb)
          clear hb
          have hbz : Below w6.heap.size w6 (w6.alloc (.cells #[.slice none 0 0] 42)) := (Below.refl _ _).alloc (Nat.le_refl _) _
          obtain ⟨hsS, HSR⟩ := src_old HK.out hbz
          go_wp2_with (at_builtin; refine Stopped.go ?_)
          unfold Stopped
          refine wl_catS (by rfl) _ _ (by rfl) w6 _ [[]] S (by rfl) (ownS_one w6 w6 (Nat.le_refl _)) hbz a cap (by rfl) hsS HSR (by have := HSS.out.1; simp; omega) ?_
          intro vb w7 hob hb _
          obtain ⟨al, cl, rfl, hkl⟩ := stk_of_ownS hob hb
          have HTl := Lib.hid hkl
          clear hbz hob hkl HSR
          rw [HLT2.out]
          have HS7 := Lib.hid (HS6.out.next hb)
          replace HK := Lib.hid (HK.out.below hb)
          replace Her1 := Lib.hid (Her1.out.below hb)
          replace Ha := Lib.hid (Ha.out.below hb)
          replace HTk := Lib.hid (HTk.out.below hb)
          replace Her2 := Lib.hid (Her2.out.below hb)
          replace Hb := Lib.hid (Hb.out.below hb)
          clear hb
          clear v0 v1 v2 v3 vf0 vf1 vf2 vf3 hVb hMb hUb
          go_wp2_with fail
          refine (HAT2.out _ _ _ HS7.out.et HTl.out).mono ?_
          rintro e w8 ⟨er3, rfl, e9, hb⟩
          have Her3 := Lib.hid e9
          clear e9
          have HS8 := Lib.hid (HS7.out.next hb)
          replace HK := Lib.hid (HK.out.below hb)
          replace Her1 := Lib.hid (Her1.out.below hb)
          replace Ha := Lib.hid (Ha.out.below hb)
          replace HTk := Lib.hid (HTk.out.below hb)
          replace Her2 := Lib.hid (Her2.out.below hb)
          replace Hb := Lib.hid (Hb.out.below hb)
          replace HTl := Lib.hid (HTl.out.below hb)
          clear hb
          obtain ⟨Vc, w9, Mc, hVc, hMc, hUc, hv, hu, hb⟩ := fd_box w8 z
          have v0 := hv.c0
          have v1 := hv.c1
          have v2 := hv.c2
          have v3 := hv.c3
          have vf0 := hv.f0
          have vf1 := hv.f1
          have vf2 := hv.f2
          have vf3 := hv.f3
          have Hc := Lib.hid hu
          clear hv hu
          have HS9 := Lib.hid (HS8.out.next hb)
          replace HK := Lib.hid (HK.out.below hb)
          replace Her1 := Lib.hid (Her1.out.below hb)
          replace Ha := Lib.hid (Ha.out.below hb)
          replace HTk := Lib.hid (HTk.out.below hb)
          replace Her2 := Lib.hid (Her2.out.below hb)
          replace Hb := Lib.hid (Hb.out.below hb)
          replace HTl := Lib.hid (HTl.out.below hb)
          replace Her3 := Lib.hid (Her3.out.below hb)
          clear hb
          go_wp2_with fail
          refine (code_er _ _ _ Her1.out HS9.out.et).mono ?_
          rintro e w10 ⟨rfl, hb⟩
          replace Hc := Lib.hid (Hc.out.below hb)
          have HS10 := Lib.hid (HS9.out.next hb)
          replace HK := Lib.hid (HK.out.below hb)
          replace Her1 := Lib.hid (Her1.out.below hb)
          replace Ha := Lib.hid (Ha.out.below hb)
          replace HTk := Lib.hid (HTk.out.below hb)
          replace Her2 := Lib.hid (Her2.out.below hb)
          replace Hb := Lib.hid (Hb.out.below hb)
          replace HTl := Lib.hid (HTl.out.below hb)
          replace Her3 := Lib.hid (Her3.out.below hb)
          clear hb
          clear v0 v1 v2 v3 vf0 vf1 vf2 vf3 hVc hMc hUc
          have qc0 := Hc.out.c0
          have qc1 := Hc.out.c1
          have qc2 := Hc.out.c2
          have qc3 := Hc.out.c3
          go_wp2_with fail
          refine (code_er _ _ _ Her2.out HS10.out.et).mono ?_
          rintro e w11 ⟨rfl, hb⟩
          have HS11 := Lib.hid (HS10.out.next hb)
          replace HK := Lib.hid (HK.out.below hb)
          replace Her1 := Lib.hid (Her1.out.below hb)
          replace Ha := Lib.hid (Ha.out.below hb)
          replace HTk := Lib.hid (HTk.out.below hb)
          replace Her2 := Lib.hid (Her2.out.below hb)
          replace Hb := Lib.hid (Hb.out.below hb)
          replace HTl := Lib.hid (HTl.out.below hb)
          replace Her3 := Lib.hid (Her3.out.below hb)
          replace Hc := Lib.hid (Hc.out.below hb)
          clear qc0 qc1 qc2 qc3
          clear hb
          have qc0 := Hc.out.c0
          have qc1 := Hc.out.c1
          have qc2 := Hc.out.c2
          have qc3 := Hc.out.c3
          go_wp2_with fail
          refine (code_er _ _ _ Her1.out HS11.out.et).mono ?_
          rintro e w12 ⟨rfl, hb⟩
          have HS12 := Lib.hid (HS11.out.next hb)
          replace HK := Lib.hid (HK.out.below hb)
          replace Her1 := Lib.hid (Her1.out.below hb)
          replace Ha := Lib.hid (Ha.out.below hb)
          replace HTk := Lib.hid (HTk.out.below hb)
          replace Her2 := Lib.hid (Her2.out.below hb)
          replace Hb := Lib.hid (Hb.out.below hb)
          replace HTl := Lib.hid (HTl.out.below hb)
          replace Her3 := Lib.hid (Her3.out.below hb)
          replace Hc := Lib.hid (Hc.out.below hb)
          clear qc0 qc1 qc2 qc3
          clear hb
          have qc0 := Hc.out.c0
          have qc1 := Hc.out.c1
          have qc2 := Hc.out.c2
          have qc3 := Hc.out.c3
          go_wp2_with fail
          refine (code_er _ _ _ Her3.out HS12.out.et).mono ?_
          rintro e w13 ⟨rfl, hb⟩
          have HS13 := Lib.hid (HS12.out.next hb)
          replace HK := Lib.hid (HK.out.below hb)
          replace Her1 := Lib.hid (Her1.out.below hb)
          replace Ha := Lib.hid (Ha.out.below hb)
          replace HTk := Lib.hid (HTk.out.below hb)
          replace Her2 := Lib.hid (Her2.out.below hb)
          replace Hb := Lib.hid (Hb.out.below hb)
          replace HTl := Lib.hid (HTl.out.below hb)
          replace Her3 := Lib.hid (Her3.out.below hb)
          replace Hc := Lib.hid (Hc.out.below hb)
          clear qc0 qc1 qc2 qc3
          clear hb
          have qc0 := Hc.out.c0
          have qc1 := Hc.out.c1
          have qc2 := Hc.out.c2
          have qc3 := Hc.out.c3
          go_wp2_with fail
          refine (code_er _ _ _ Her1.out HS13.out.et).mono ?_
          rintro e w14 ⟨rfl, hb⟩
          have HS14 := Lib.hid (HS13.out.next hb)
          replace HK := Lib.hid (HK.out.below hb)
          replace Her1 := Lib.hid (Her1.out.below hb)
          replace Ha := Lib.hid (Ha.out.below hb)
          replace HTk := Lib.hid (HTk.out.below hb)
          replace Her2 := Lib.hid (Her2.out.below hb)
          replace Hb := Lib.hid (Hb.out.below hb)
          replace HTl := Lib.hid (HTl.out.below hb)
          replace Her3 := Lib.hid (Her3.out.below hb)
          replace Hc := Lib.hid (Hc.out.below hb)
          clear qc0 qc1 qc2 qc3
          clear hb
          have qc0 := Hc.out.c0
          have qc1 := Hc.out.c1
          have qc2 := Hc.out.c2
          have qc3 := Hc.out.c3
          go_wp2
          go_ret
          exact ⟨by first | rfl | simp, HS14.out.below⟩
  · have hF1 : (if FewOK S then (1 : Int) else 0) = 0 := if_neg hf
    clear hf
    go_enter Tryd.func5, Tryd.ntmps5
    go_wp2_with fail
    refine (awake12 L _ HS0.out.et).mono ?_
    rintro e w1 ⟨rfl, hb⟩
    have HS1 := Lib.hid (HS0.out.next hb)
    replace HK := Lib.hid (HK.out.below hb)
    clear hb
    go_wp2_with fail
    refine (few10 S a cap _ HK.out).mono ?_
    rintro e w9 ⟨rfl, rfl⟩
    rw [hF1]
    go_wp2_with fail
    refine (awake12 L _ HS1.out.et).mono ?_
    rintro e w2 ⟨rfl, hb⟩
    have HS2 := Lib.hid (HS1.out.next hb)
    replace HK := Lib.hid (HK.out.below hb)
    clear hb
    go_wp2
    go_ret
    exact ⟨by first | rfl | simp, HS2.out.below⟩
end Go.Proofs.YthpobihpdomhoaaDoor
