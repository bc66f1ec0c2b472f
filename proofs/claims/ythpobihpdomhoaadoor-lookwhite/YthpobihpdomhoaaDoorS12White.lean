/-
  The law LookWhite walked over Look12: for every stack and two texts it returns true and changes nothing that was there. Conditions: package look answers as Look12 says; the stack lies in memory; errorType holds error's type.
-/
import Derived.Test.YthpobihpdomhoaaDoorOldEn
import Derived.Test.YthpobihpdomhoaaDoorPc
import Derived.Test.YthpobihpdomhoaaDoorS12Awake
import Derived.Test.YthpobihpdomhoaaDoorS12Few
import Derived.Test.YthpobihpdomhoaaDoorS12FdEq
import Derived.Test.YthpobihpdomhoaaDoorS12Ref2
import Derived.Test.YthpobihpdomhoaaDoorS9Right
import Derived.Test.YthpobihpdomhoaaDoorStkApp
namespace Go.Proofs.YthpobihpdomhoaaDoor
open Go.RowKit

attribute [local go_sem ↓] old_ldi old_lds old_lde3 old_eqen old_neen
attribute [local go_sem] oldC_forall isC1_ptr isS1_ptr c1V_ptr isE3_ptr e3V_ptr isEv_agg evEq_agg eta_ent
theorem ok_snoc {S : List (List Ent)} (h : LkOK S) (h8 : S.length ≤ 8) {l : List Ent} (hl : RightL l) : LkOK (([] ++ S) ++ [l]) := by
  refine ⟨by simp; omega, fun x hx => ?_⟩
  rw [List.nil_append] at hx
  rcases List.mem_append.1 hx with hx | hx
  · exact h.2 x hx
  · obtain rfl : x = l := by simpa using hx
    exact hl
theorem sm_snoc {S : List (List Ent)} (h : ∀ l ∈ S, Sm l) {l : List Ent} (hl : Sm l) : ∀ x ∈ ([] ++ S) ++ [l], Sm x := fun x hx => by
  rw [List.nil_append] at hx
  rcases List.mem_append.1 hx with hx | hx
  · exact h x hx
  · obtain rfl : x = l := by simpa using hx
    exact hl
theorem white_file {q d : ByteArray} (h : RightL [((q, 3, ⟨#[]⟩) : Ent)]) (hd : d.size ≤ 256) : RightL [((q, 1, d) : Ent)] := by
  obtain ⟨_, h2⟩ := h
  obtain ⟨a1, a2, a3⟩ := h2
  obtain ⟨p1, p2⟩ := rE_isP (a1 _ (List.mem_singleton.2 rfl))
  refine ⟨by simp, fun e he => ?_, by unfold Asc; simp, fun e he => ?_⟩
  · obtain rfl : e = _ := by simpa using he
    exact rE_file p1 p2 hd
  · obtain rfl : e = _ := by simpa using he
    rcases a3 _ (List.mem_singleton.2 rfl) with h | ⟨x, hx, h1, _⟩
    · exact .inl h
    · obtain rfl : x = _ := by simpa using hx
      have := (par9_isP p1 p2).2
      rw [← h1] at this
      exact absurd this (Nat.lt_irrefl _)
set_option maxRecDepth 10000 in
set_option maxHeartbeats 8000000 in
theorem lawWhite12 (L : Look12) (S : List (List Ent)) (s d : ByteArray) (a : Option Addr) (cap : Nat) (W : World) (hg : EtLaid W) (hk : Stk W a cap S) : Calls Tryd.prog 7 #[.slice a S.length cap, .string s, .string d] W fun e w' => e = .returned (.bool true) ∧ Below W.heap.size W w' := by
  have HS0 := Lib.hid (st_self hg)
  have HK := Lib.hid hk
  clear hg hk
  by_cases hf : FewOK S
  · have hF1 : (if FewOK S then (1 : Int) else 0) = 1 := if_pos hf
    have HFW := Lib.hid hf
    have HSS := Lib.hid (few_sm12 hf)
    clear hf
    by_cases hs : (50 : Int) < (s.size : Int)
    · go_enter Tryd.func7, Tryd.ntmps7
      go_wp2_with fail
      refine (awake12 L _ HS0.out.et).mono ?_
      rintro e w1 ⟨rfl, hb⟩
      have HS1 := Lib.hid (HS0.out.next hb)
      replace HK := Lib.hid (HK.out.below hb)
      clear hb
      go_wp2_with fail
      refine (few10 S a cap _ HK.out).mono ?_
      rintro e w9 ⟨rfl, rfl⟩
      rw [hF1]
      go_wp2_with fail
      refine (awake12 L _ HS1.out.et).mono ?_
      rintro e w2 ⟨rfl, hb⟩
      have HS2 := Lib.hid (HS1.out.next hb)
      replace HK := Lib.hid (HK.out.below hb)
      clear hb
      go_wp2
      go_ret
      exact ⟨by first | rfl | simp, HS2.out.below⟩
    · by_cases hd : (256 : Int) < (d.size : Int)
      · go_enter Tryd.func7, Tryd.ntmps7
        go_wp2_with fail
        refine (awake12 L _ HS0.out.et).mono ?_
        rintro e w1 ⟨rfl, hb⟩
        have HS1 := Lib.hid (HS0.out.next hb)
        replace HK := Lib.hid (HK.out.below hb)
        clear hb
        go_wp2_with fail
        refine (few10 S a cap _ HK.out).mono ?_
        rintro e w9 ⟨rfl, rfl⟩
        rw [hF1]
        go_wp2_with fail
        refine (awake12 L _ HS1.out.et).mono ?_
        rintro e w2 ⟨rfl, hb⟩
        have HS2 := Lib.hid (HS1.out.next hb)
        replace HK := Lib.hid (HK.out.below hb)
        clear hb
        go_wp2
        go_ret
        exact ⟨by first | rfl | simp, HS2.out.below⟩
      · have HSZ := Lib.hid (show s.size ≤ 50 by omega)
        have HDZ := Lib.hid (show d.size ≤ 256 by omega)
        by_cases h8 : (8 : Int) < (S.length : Int)
        · have g8 : (8 : Int) < (S.length : Int) := h8
          go_enter Tryd.func7, Tryd.ntmps7
          go_wp2_with fail
          refine (awake12 L _ HS0.out.et).mono ?_
          rintro e w1 ⟨rfl, hb⟩
          have HS1 := Lib.hid (HS0.out.next hb)
          replace HK := Lib.hid (HK.out.below hb)
          clear hb
          go_wp2_with fail
          refine (few10 S a cap _ HK.out).mono ?_
          rintro e w9 ⟨rfl, rfl⟩
          rw [hF1]
          go_wp2_with fail
          refine (awake12 L _ HS1.out.et).mono ?_
          rintro e w2 ⟨rfl, hb⟩
          have HS2 := Lib.hid (HS1.out.next hb)
          replace HK := Lib.hid (HK.out.below hb)
          clear hb
          go_wp2
          go_ret
          exact ⟨by first | rfl | simp, HS2.out.below⟩
        · have HRR := Lib.hid (fun W h => refRight12 S a cap W h HSS.out.1 HSS.out.2)
          have z1 : ¬ 9223372036854775807 < 1 + s.size := by have := HSZ.out; omega
          obtain ⟨q, hq⟩ : ∃ q, (⟨#[47]⟩ : ByteArray) ++ s = q := ⟨_, rfl⟩
          have HQS := Lib.hid (show q.size ≤ 51 by rw [← hq, ByteArray.size_append]; have := HSZ.out; show 1 + s.size ≤ 51; omega)
          have HWS := Lib.hid (show Sm [((q, 3, ⟨#[]⟩) : Ent)] from ⟨by simp, fun e he => by
            obtain rfl : e = _ := by simpa using he
            have := HQS.out
            exact ⟨by show q.size ≤ _; omega, show (0 : Nat) ≤ 100000 by decide⟩⟩)
          go_enter Tryd.func7, Tryd.ntmps7
          go_wp2_with fail
          refine (awake12 L _ HS0.out.et).mono ?_
          rintro e w1 ⟨rfl, hb⟩
          have HS1 := Lib.hid (HS0.out.next hb)
          replace HK := Lib.hid (HK.out.below hb)
          clear hb
          go_wp2_with fail
          refine (few10 S a cap _ HK.out).mono ?_
          rintro e w9 ⟨rfl, rfl⟩
          rw [hF1]
          have hb : Below w1.heap.size w1 (w1.alloc (.cells #[.string q, .int .i64 3, .string ⟨#[]⟩] 26)) := (Below.refl _ _).alloc (Nat.le_refl _) _
          have hq2 := ents_block (cap := 1) (heap_alloc_new w1 (.cells #[.string q, .int .i64 3, .string ⟨#[]⟩] 26)) (show _ = [((q, 3, ⟨#[]⟩) : Ent)].flatMap enc from rfl) (by simp)
          obtain ⟨w2, hww⟩ : ∃ v, w1.alloc (.cells #[.string q, .int .i64 3, .string ⟨#[]⟩] 26) = v := ⟨_, rfl⟩
          obtain ⟨Mw, hMw⟩ : ∃ M, w1.heap.size = M := ⟨_, rfl⟩
          rw [hww] at hb hq2
          rw [hMw] at hq2
          have HS2 := Lib.hid (HS1.out.next hb)
          replace HK := Lib.hid (HK.out.below hb)
          clear hb
          have HEw := Lib.hid hq2
          clear hq2
          go_wp2_with fail
          refine (right9 _ _ 1 _ HEw.out HWS.out).mono ?_
          rintro e w3 ⟨rfl, hb⟩
          have HS3 := Lib.hid (HS2.out.next hb)
          replace HK := Lib.hid (HK.out.below hb)
          replace HEw := Lib.hid (HEw.out.below hb)
          clear hb
          clear hww hMw
          by_cases hr : RightL [((q, 3, ⟨#[]⟩) : Ent)]
          · rw [decide_eq_true hr]
            have HR := Lib.hid hr
            clear hr
            by_cases hok : LkOK S
            · rw [decide_eq_true (show S.length ≤ 9 ∧ ∀ l ∈ S, RightL l from hok)] at HRR
              have HOK := Lib.hid hok
              clear hok
              have hrf := white_file HR.out (show d.size ≤ 256 from HDZ.out)
              have HLTw := Lib.hid (show (([] ++ S) ++ [[((q, 3, ⟨#[]⟩) : Ent)]]).length = S.length + 1 by simp)
              have HLTf := Lib.hid (show (([] ++ S) ++ [[((q, 1, d) : Ent)]]).length = S.length + 1 by simp)
              have HLW := Lib.hid (show lkV (([] ++ S) ++ [[((q, 3, ⟨#[]⟩) : Ent)]]) q.data.toList = (3, noE, 0) by
                rw [lkV_ok (ok_snoc HOK.out (by omega) HR.out), List.nil_append]
                exact (at_white S (e := (q, 3, ⟨#[]⟩)) HR.out.2 (.inl rfl)).trans (if_pos rfl))
              have HLF := Lib.hid (show lkV (([] ++ S) ++ [[((q, 1, d) : Ent)]]) q.data.toList = (0, (q, 1, d), S.length) by
                rw [lkV_ok (ok_snoc HOK.out (by omega) hrf), List.nil_append]
                exact (at_white S (e := (q, 1, d)) hrf.2 (.inr rfl)).trans (if_neg (show ¬ (1 : Int) = 3 by decide)))
              obtain ⟨yz, hyz⟩ : ∃ y : Ent × Nat, noF = y := ⟨_, rfl⟩
              obtain ⟨m3, hm3⟩ : ∃ n : Int, 3 = n := ⟨_, rfl⟩
              obtain ⟨m0, hm0⟩ : ∃ n : Int, 0 = n := ⟨_, rfl⟩
              have gm3 : (m3 == 3) = true := by rw [← hm3]; rfl
              have gm0 : (m0 == 0) = true := by rw [← hm0]; rfl
              obtain ⟨yx, hyx⟩ : ∃ y : Ent × Nat, ((q, 1, d), S.length) = y := ⟨_, rfl⟩
              have HYX := Lib.hid hyx
              have HATw : Hid (∀ w a' c', EtLaid w → Stk w a' c' (([] ++ S) ++ [[((q, 3, ⟨#[]⟩) : Ent)]]) → Calls Tryd.prog 10 #[.slice a' (S.length + 1) c', .string q] w fun e w' => ∃ er, e = .returned (.tuple #[fdnV yz, er]) ∧ Er w' m3 er ∧ Below w.heap.size w w') := fun w a' c' h1 h2 => by
                have := L _ a' c' q w h1 h2 (by rw [HLTw.out]; omega) (sm_snoc HSS.out.2 (sm_right HR.out)) (by have := HQS.out; omega)
                rw [HLW.out, HLTw.out] at this
                rw [← hyz, ← hm3]
                exact this
              have HATf : Hid (∀ w a' c', EtLaid w → Stk w a' c' (([] ++ S) ++ [[((q, 1, d) : Ent)]]) → Calls Tryd.prog 10 #[.slice a' (S.length + 1) c', .string q] w fun e w' => ∃ er, e = .returned (.tuple #[fdnV yx, er]) ∧ Er w' m0 er ∧ Below w.heap.size w w') := fun w a' c' h1 h2 => by
                have := L _ a' c' q w h1 h2 (by rw [HLTf.out]; omega) (sm_snoc HSS.out.2 (sm_right hrf)) (by have := HQS.out; omega)
                rw [HLF.out, HLTf.out, hyx] at this
                rw [← hm0]
                exact this
              clear hrf hyz hyx hm3 hm0
              go_wp2_with fail
              refine (HRR.out _ HK.out).mono ?_
              rintro e w4 ⟨rfl, hb⟩
              have HS4 := Lib.hid (HS3.out.next hb)
              replace HK := Lib.hid (HK.out.below hb)
              replace HEw := Lib.hid (HEw.out.below hb)
              clear hb
              have hb : Below w4.heap.size w4 (w4.alloc (.cells #[.string q, .int .i64 1, .string d] 26)) := (Below.refl _ _).alloc (Nat.le_refl _) _
              have hq2 := ents_block (cap := 1) (heap_alloc_new w4 (.cells #[.string q, .int .i64 1, .string d] 26)) (show _ = [((q, 1, d) : Ent)].flatMap enc from rfl) (by simp)
              obtain ⟨w5, hwf⟩ : ∃ v, w4.alloc (.cells #[.string q, .int .i64 1, .string d] 26) = v := ⟨_, rfl⟩
              obtain ⟨Mf, hMf⟩ : ∃ M, w4.heap.size = M := ⟨_, rfl⟩
              rw [hwf] at hb hq2
              rw [hMf] at hq2
              have HS5 := Lib.hid (HS4.out.next hb)
              replace HK := Lib.hid (HK.out.below hb)
              replace HEw := Lib.hid (HEw.out.below hb)
              clear hb
              have HEf := Lib.hid hq2
              clear hq2
              have hbz : Below w5.heap.size w5 (w5.alloc (.cells #[] 42)) := (Below.refl _ _).alloc (Nat.le_refl _) _
              obtain ⟨hsS, HSR⟩ := src_old HK.out hbz
              go_wp2_with (at_builtin; refine Stopped.go ?_)
              unfold Stopped
              refine wl_catS (by rfl) _ _ (by rfl) w5 _ [] S (by rfl) (ownS_new w5 w5 (Nat.le_refl _)) hbz a cap (by rfl) hsS HSR (by have := HSS.out.1; simp; omega) ?_
              intro va wa hoa hba _
              have HOA := Lib.hid hoa
              have HBA := Lib.hid hba
              clear hbz HSR hoa hba
              go_wp2_with (at_builtin; refine Stopped.go ?_)
              unfold Stopped
              have hbz : Below wa.heap.size wa (wa.alloc (.cells #[.slice (some ⟨Mw, 0, none⟩) 1 1] 42)) := (Below.refl _ _).alloc (Nat.le_refl _) _
              refine wl_catS (by rfl) _ _ (by rfl) w5 _ ([] ++ S) [[(q, 3, ⟨#[]⟩)]] (by rfl) (HOA.out.below hbz) (HBA.out.trans (hbz.mono HBA.out.size)) (some ⟨wa.heap.size, 0, none⟩) 1 (by rfl) _ (src_one HEw.out (by simp)) (by have := HSS.out.1; simp; omega) ?_
              intro vb w6 hob hb _
              obtain ⟨aw, cw, rfl, hkw⟩ := stk_of_ownS hob hb
              have HTw := Lib.hid hkw
              clear hbz hob hkw HOA HBA
              rw [HLTw.out]
              have HS6 := Lib.hid (HS5.out.next hb)
              replace HK := Lib.hid (HK.out.below hb)
              replace HEw := Lib.hid (HEw.out.below hb)
              replace HEf := Lib.hid (HEf.out.below hb)
              clear hb
              go_wp2_with fail
              refine (HATw.out _ _ _ HS6.out.et HTw.out).mono ?_
              rintro e w7 ⟨er1, rfl, e9, hb⟩
              have Her1 := Lib.hid e9
              clear e9
              have HS7 := Lib.hid (HS6.out.next hb)
              replace HK := Lib.hid (HK.out.below hb)
              replace HEw := Lib.hid (HEw.out.below hb)
              replace HEf := Lib.hid (HEf.out.below hb)
              replace HTw := Lib.hid (HTw.out.below hb)
              clear hb
              obtain ⟨Vz, w8, Mz, hVz, hMz, hUz, hv, hu, hb⟩ := fd_box w7 yz
              have v0 := hv.c0
              have v1 := hv.c1
              have v2 := hv.c2
              have v3 := hv.c3
              have vf0 := hv.f0
              have vf1 := hv.f1
              have vf2 := hv.f2
              have vf3 := hv.f3
              have Hz := Lib.hid hu
              clear hv hu
              have HS8 := Lib.hid (HS7.out.next hb)
              replace HK := Lib.hid (HK.out.below hb)
              replace HEw := Lib.hid (HEw.out.below hb)
              replace HEf := Lib.hid (HEf.out.below hb)
              replace HTw := Lib.hid (HTw.out.below hb)
              replace Her1 := Lib.hid (Her1.out.below hb)
              clear hb
              have hbz : Below w8.heap.size w8 (w8.alloc (.cells #[] 42)) := (Below.refl _ _).alloc (Nat.le_refl _) _
              obtain ⟨hsS, HSR⟩ := src_old HK.out hbz
              go_wp2_with (at_builtin; refine Stopped.go ?_)
              unfold Stopped
              refine wl_catS (by rfl) _ _ (by rfl) w8 _ [] S (by rfl) (ownS_new w8 w8 (Nat.le_refl _)) hbz a cap (by rfl) hsS HSR (by have := HSS.out.1; simp; omega) ?_
              intro va wa hoa hba _
              have HOA := Lib.hid hoa
              have HBA := Lib.hid hba
              clear hbz HSR hoa hba
              go_wp2_with (at_builtin; refine Stopped.go ?_)
              unfold Stopped
              have hbz : Below wa.heap.size wa (wa.alloc (.cells #[.slice (some ⟨Mf, 0, none⟩) 1 1] 42)) := (Below.refl _ _).alloc (Nat.le_refl _) _
              refine wl_catS (by rfl) _ _ (by rfl) w8 _ ([] ++ S) [[(q, 1, d)]] (by rfl) (HOA.out.below hbz) (HBA.out.trans (hbz.mono HBA.out.size)) (some ⟨wa.heap.size, 0, none⟩) 1 (by rfl) _ (src_one HEf.out (by simp)) (by have := HSS.out.1; simp; omega) ?_
              intro vb w9 hob hb _
              obtain ⟨af, cf, rfl, hkf⟩ := stk_of_ownS hob hb
              have HTf := Lib.hid hkf
              clear hbz hob hkf HOA HBA
              rw [HLTf.out]
              have HS9 := Lib.hid (HS8.out.next hb)
              replace HK := Lib.hid (HK.out.below hb)
              replace HEw := Lib.hid (HEw.out.below hb)
              replace HEf := Lib.hid (HEf.out.below hb)
              replace HTw := Lib.hid (HTw.out.below hb)
              replace Her1 := Lib.hid (Her1.out.below hb)
              clear hb
              clear v0 v1 v2 v3 vf0 vf1 vf2 vf3 hVz hMz hUz
              go_wp2_with fail
              refine (HATf.out _ _ _ HS9.out.et HTf.out).mono ?_
              rintro e w10 ⟨er2, rfl, e9, hb⟩
              have Her2 := Lib.hid e9
              clear e9
              have HS10 := Lib.hid (HS9.out.next hb)
              replace HK := Lib.hid (HK.out.below hb)
              replace HEw := Lib.hid (HEw.out.below hb)
              replace HEf := Lib.hid (HEf.out.below hb)
              replace HTw := Lib.hid (HTw.out.below hb)
              replace Her1 := Lib.hid (Her1.out.below hb)
              replace HTf := Lib.hid (HTf.out.below hb)
              clear hb
              obtain ⟨Vx, w11, Mx, hVx, hMx, hUx, hv, hu, hb⟩ := fd_box w10 yx
              have v0 := hv.c0
              have v1 := hv.c1
              have v2 := hv.c2
              have v3 := hv.c3
              have vf0 := hv.f0
              have vf1 := hv.f1
              have vf2 := hv.f2
              have vf3 := hv.f3
              have Hx := Lib.hid hu
              clear hv hu
              have HS11 := Lib.hid (HS10.out.next hb)
              replace HK := Lib.hid (HK.out.below hb)
              replace HEw := Lib.hid (HEw.out.below hb)
              replace HEf := Lib.hid (HEf.out.below hb)
              replace HTw := Lib.hid (HTw.out.below hb)
              replace Her1 := Lib.hid (Her1.out.below hb)
              replace HTf := Lib.hid (HTf.out.below hb)
              replace Her2 := Lib.hid (Her2.out.below hb)
              clear hb
              go_wp2_with fail
              clear v0 v1 v2 v3 vf0 vf1 vf2 vf3 hVx hMx hUx
              have H1 : Hid (∀ w', OldC w11 w' → Calls Tryd.prog 12 #[er1] w' fun r w'' => r = .returned (.int .i64 m3) ∧ OldC w11 w'') := fun w' hw' => by
                refine (code_er _ _ _ (Her1.out.below hw') (HS11.out.next hw').et).mono ?_
                rintro r w'' ⟨rfl, hb⟩
                exact ⟨rfl, hw'.then hb⟩
              have H2 : Hid (∀ w', OldC w11 w' → Calls Tryd.prog 12 #[er2] w' fun r w'' => r = .returned (.int .i64 m0) ∧ OldC w11 w'') := fun w' hw' => by
                refine (code_er _ _ _ (Her2.out.below hw') (HS11.out.next hw').et).mono ?_
                rintro r w'' ⟨rfl, hb⟩
                exact ⟨rfl, hw'.then hb⟩
              obtain ⟨bf, of, ef, _, hcf⟩ := Ents.at HEf.out (Below.refl _ _) (k := 0) (by simp)
              cases ef
              have f0 : w11.cell? ⟨Mf, 0, none⟩ = some (.string q) := by simpa using hcf.c0
              have f1 : w11.cell? ⟨Mf, 1, none⟩ = some (.int .i64 1) := by simpa using hcf.c1
              have f2 : w11.cell? ⟨Mf, 2, none⟩ = some (.string d) := by simpa using hcf.c2
              clear hcf
              obtain rfl := HYX.out
              have qx0 := Hx.out.c0
              have qx1 := Hx.out.c1
              have qx2 := Hx.out.c2
              have qx3 := Hx.out.c3
              refine wp_region_old (by kernel_rfl) (by kernel_rfl) ?_
              repeat (go_big_quiet_step ((first | (intro hw; with_reducible exact H1.out _ hw) | (intro hw; with_reducible exact H2.out _ hw))))
              refine wpQuiet_nil ?_
              intro w99 hw9
              have HS12 := Lib.hid (HS11.out.next hw9)
              clear hw9
              go_wp2
              go_ret
              exact ⟨by first | rfl | simp, HS12.out.below⟩
            · rw [decide_eq_false (show ¬ (S.length ≤ 9 ∧ ∀ l ∈ S, RightL l) from hok)] at HRR
              clear hok
              go_wp2_with fail
              refine (HRR.out _ HK.out).mono ?_
              rintro e w4 ⟨rfl, hb⟩
              have HS4 := Lib.hid (HS3.out.next hb)
              replace HK := Lib.hid (HK.out.below hb)
              replace HEw := Lib.hid (HEw.out.below hb)
              clear hb
              go_wp2
              go_ret
              exact ⟨by first | rfl | simp, HS4.out.below⟩
          · rw [decide_eq_false hr]
            clear hr
            go_wp2
            go_ret
            exact ⟨by first | rfl | simp, HS3.out.below⟩
  · have hF1 : (if FewOK S then (1 : Int) else 0) = 0 := if_neg hf
    clear hf
    go_enter Tryd.func7, Tryd.ntmps7
    go_wp2_with fail
    refine (awake12 L _ HS0.out.et).mono ?_
    rintro e w1 ⟨rfl, hb⟩
    have HS1 := Lib.hid (HS0.out.next hb)
    replace HK := Lib.hid (HK.out.below hb)
    clear hb
    go_wp2_with fail
    refine (few10 S a cap _ HK.out).mono ?_
    rintro e w9 ⟨rfl, rfl⟩
    rw [hF1]
    go_wp2_with fail
    refine (awake12 L _ HS1.out.et).mono ?_
    rintro e w2 ⟨rfl, hb⟩
    have HS2 := Lib.hid (HS1.out.next hb)
    replace HK := Lib.hid (HK.out.below hb)
    clear hb
    go_wp2
    go_ret
    exact ⟨by first | rfl | simp, HS2.out.below⟩
end Go.Proofs.YthpobihpdomhoaaDoor
