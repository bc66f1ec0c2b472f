/-
  The contract of package blob's Put of a text that can lie there: sector by sector, until a write is refused; where it lies. Condition: not too many writes that aren't firm.
-/
import Derived.Test.YtpimclhdimcioaaDoorS7Put
import Derived.Test.YtpimclhdimcioaaDoorS4Reader
namespace Go.Proofs.YtpimclhdimcioaaDoor
open Go.RowKit Go.Maps

attribute [local go_sem ↓] old_ldrf
attribute [local go_sem] oldC_forall
theorem rt_true {k n size : Int} (h : rt k n size = true) : 0 < pgs n ∧ pgs n ≤ size ∧ 0 ≤ k ∧ k ≤ size - pgs n := by
  unfold rt at h
  simp at h
  omega
theorem Did.then {F F' : Nat → Prop} {w w1 w2 : World} (h : Did F F' w w1) (hb : Below w1.heap.size w1 w2) : Did F F' w w2 := h.trans (Did.of_below hb)
theorem Did.from {F F' : Nat → Prop} {w w1 w2 : World} (hb : Below w.heap.size w w1) (h : Did F F' w1 w2) : Did F F' w w2 := (Did.of_below hb).trans h
theorem Did.rf3 {F F' : Nat → Prop} {w w1 : World} (h : Did F F' w w1) {b : Nat} (hb : w.heap.size ≤ b) (k n s : Int) : Did F F' w (((w1.setCell ⟨b, 0, none⟩ (.int .i64 k)).setCell ⟨b, 1, none⟩ (.int .i64 n)).setCell ⟨b, 2, none⟩ (.int .u32 s)) :=
  ⟨((h.fr.setCell (p := ⟨b, 0, none⟩) (.inr hb) _).setCell (p := ⟨b, 1, none⟩) (.inr hb) _).setCell (p := ⟨b, 2, none⟩) (.inr hb) _, h.new⟩
theorem IsDsk.rf3 {w : World} {F : Nat → Prop} {b : Nat} {D : DskV} (h : IsDsk w F b D) {c : Nat} (hc : ¬ F c) (k n s : Int) : IsDsk (((w.setCell ⟨c, 0, none⟩ (.int .i64 k)).setCell ⟨c, 1, none⟩ (.int .i64 n)).setCell ⟨c, 2, none⟩ (.int .u32 s)) F b D := by
  refine h.keep (fun j hj => ?_) (by simp [World.setCell])
  have hne : j ≠ c := fun e => hc (e ▸ hj)
  rw [Below.heap_setCell _ _ _ _ hne, Below.heap_setCell _ _ _ _ hne, Below.heap_setCell _ _ _ _ hne]
set_option maxRecDepth 10000 in
set_option maxHeartbeats 4000000 in
theorem put_run {w : World} {F : Nat → Prop} {b : Nat} {D : DskV} (h : IsDsk w F b D) (k : Int) (s : ByteArray) (h1 : 1 ≤ s.size) (h2 : s.size ≤ 16384) (hr : rt k (s.size : Int) D.size = true) (hf : D.soft.length + npg s.size ≤ 1000) :
    Calls Tryd.prog 10 #[.pointer (some ⟨b, 0, none⟩), .int .i64 k, .string s] w fun e w' => e = .returned (.tuple #[if (putGo k s.data.toList (npg s.size) 0 D).2 = 0 then refV k (s.size : Int) (adl s.data.toList) else refV 0 0 0, errV (putGo k s.data.toList (npg s.size) 0 D).2]) ∧ ∃ F', IsDsk w' F' b (putGo k s.data.toList (npg s.size) 0 D).1 ∧ Did F F' w w' := by
  obtain ⟨np, hnp⟩ : ∃ np, npg s.size = np := ⟨_, rfl⟩
  have hp := pgs_nat h1 h2
  have hps := npg_pos h1
  have hlt : ∀ i, i < np → 64 * i < s.size := fun i hi => npg_lt (hnp ▸ hi)
  rw [hnp] at hp hf hps ⊢
  have HP := Lib.hid hp
  have HLT := Lib.hid hlt
  have hrt := rt_true hr
  rw [hp] at hrt
  have hok := h.ok.hi
  have HK := Lib.hid (show 0 ≤ k ∧ k + (np : Int) ≤ 2048 by omega)
  have HN := Lib.hid (show np ≤ 1000 by omega)
  have hp0 : ((np : Int) == 0) = false := by simp; omega
  have HSZ := Lib.hid (show s.size ≤ maxLen by unfold maxLen; omega)
  have HZ := Lib.hid h2
  have HS : Hid (∀ w1, Below w.heap.size w w1 → SizeIs (.pointer (some ⟨b, 0, none⟩)) D.size w1) := fun w1 hb => sizeIs_dsk (h.below hb)
  have HR : Hid (∀ w0 w', OldC w0 w' → Calls Tryd.prog 13 #[refV k (s.size : Int) (adl s.data.toList), .int .i64 D.size] w' fun e w'' => e = .returned (.bool true) ∧ OldC w0 w'') := by
    rw [← hr]
    exact right_old _ _ _ _ (by omega)
  have HD := Lib.hid h
  have HF := Lib.hid hf
  obtain ⟨R, hR⟩ : ∃ R, putGo k s.data.toList np 0 D = R := ⟨_, rfl⟩
  rw [hR]
  obtain ⟨v0, hv0⟩ : ∃ v0, (if R.2 = 0 then refV k (s.size : Int) (adl s.data.toList) else refV 0 0 0) = v0 := ⟨_, rfl⟩
  obtain ⟨ev, hev⟩ : ∃ ev, errV R.2 = ev := ⟨_, rfl⟩
  rw [hv0, hev]
  have HV0 := Lib.hid hv0
  have HEV0 := Lib.hid hev
  have HG := Lib.hid hR
  clear hp hr h1 h2 hnp hlt hrt hok hf hps hR h hv0 hev
  go_enter Tryd.func10, Tryd.ntmps10
  go_wp2_with fail
  refine (pages_any _ _).mono ?_
  rintro e w2 ⟨rfl, rfl⟩
  rw [HP.out]
  go_wp2_with fail
  refine (sum_any _ _ HSZ.out).mono ?_
  rintro e w2 ⟨rfl, rfl⟩
  go_wp2_with fail
  obtain ⟨W, hW, r0, r1, hb⟩ := rf_two w k (s.size : Int) (adl s.data.toList)
  rw [hW]
  have HB := Lib.hid hb
  have HS1 := Lib.hid (HS.out W hb)
  have HR0 := Lib.hid r0
  have HR1 := Lib.hid r1
  obtain ⟨i1, i2⟩ := r1.is
  clear hW hb HS r0 r1
  refine wp_region_old (by kernel_rfl) (by kernel_rfl) ?_
  repeat (go_big_quiet_step ((first | (intro hw; with_reducible exact HS1.out _ hw) | (intro hw; with_reducible exact HR.out _ _ hw))))
  refine wpQuiet_nil ?_
  intro w9 hw9
  have HE := Lib.hid (show Below w.heap.size w w9 from HB.out.trans (Below.mono hw9 HB.out.size))
  have HA := Lib.hid (HR0.out.below hw9)
  have HC := Lib.hid (HR1.out.below hw9)
  have HD9 := Lib.hid (HD.out.below HE.out)
  clear hw9 HB HS1 HR0 HR1 HR i1 i2
  go_wp2
  go_loopg [33] np (fun g i wx => ∃ (j : Nat) (F' : Nat → Prop) (D' : DskV), i = .int .i64 (j : Int) ∧ j + g = np ∧ Hid (IsDsk wx F' b D' ∧ Did F F' w wx ∧ putGo k s.data.toList g j D' = R ∧ D'.soft.length = D.soft.length + j) ∧ Hid (RfAt wx w.heap.size 0 0 0 ∧ RfAt wx (w.heap.size + 1) k (s.size : Int) (adl s.data.toList)) ∧ Hid (¬ F' w.heap.size ∧ ¬ F' (w.heap.size + 1)))
  case atStart => exact ⟨0, F, D, rfl, by omega, ⟨HD9.out, Did.of_below HE.out, HG.out, rfl⟩, ⟨HA.out, HC.out⟩, ⟨fun e => Nat.lt_irrefl _ (HD.out.lt _ e), fun e => by have := HD.out.lt _ e; omega⟩⟩
  case round =>
    obtain ⟨j, F', D', rfl, hj, HI, HX, HY⟩ := hrel
    by_cases hlt : j < np
    · have hlt' : (j : Int) < (np : Int) := by omega
      have hw1 : IntKind.i64.wrap (k + (j : Int)) = k + (j : Int) := IntWalk.i64_in _ (by have := HK.out; omega)
      obtain ⟨m, hm⟩ : ∃ m, 64 * j = m := ⟨_, rfl⟩
      have hms : m < s.size := by have := HLT.out j hlt; omega
      have hw2 : IntKind.i64.wrap ((j : Int) * 64) = (m : Int) := by
        rw [show (j : Int) * 64 = (m : Int) by omega]
        exact IntWalk.i64_in _ (by have := HZ.out; omega)
      have hw3 : IntKind.i64.wrap ((j : Int) + 1) = (j : Int) + 1 := IntWalk.i64_in _ (by have := HN.out; omega)
      have hm1 : (m : Int) ≤ (s.size : Int) := by omega
      have hm2 : m ≤ s.size := by omega
      have HPG : Hid (∀ W, Calls Tryd.prog 25 #[.string (s.extract m s.size)] W fun e w' => e = .returned (pgv (sec s.data.toList j)) ∧ Below W.heap.size W w') := fun W => by
        have e : (s.extract m s.size).data.toList = s.data.toList.drop (64 * j) := by
          have h3 := drop_bs (s := s) (a := s.data.toList.take m) (rest := s.data.toList.drop m) (List.take_append_drop _ _).symm
          rw [List.length_take, ← Lib.size_eq, Nat.min_eq_left hm2] at h3
          rw [h3, bs_list, hm]
        have h4 := page_any (s.extract m s.size) W
        rwa [e, sec_drop] at h4
      clear hm
      obtain ⟨g, hg⟩ : ∃ g, gk = g + 1 := ⟨gk - 1, by omega⟩
      subst hg
      go_wp2_with fail
      refine (HPG.out _).mono ?_
      rintro e w3 ⟨rfl, hb3⟩
      have HD3 := Lib.hid (HI.out.1.below hb3)
      have HT3 := Lib.hid (HI.out.2.1.then hb3)
      have HA3 := Lib.hid (HX.out.1.below hb3)
      have HC3 := Lib.hid (HX.out.2.below hb3)
      clear hb3 HPG
      by_cases hre : D'.refuse (k + (j : Int)) = 0
      · obtain ⟨hy, hb0⟩ := refuse_zero hre
        have HGO := Lib.hid (show putGo k s.data.toList g (j + 1) (D'.write (k + (j : Int)) (sec s.data.toList j)) = R by
          rw [← HI.out.2.2.1]
          exact (if_pos hre).symm)
        have HY0 := Lib.hid hy
        have HB0 := Lib.hid hb0
        clear hre hy hb0
        go_wp2_with fail
        refine (write_done HD3.out _ _ (sec_len _ _) HY0.out HB0.out (by have := HI.out.2.2.2; have := HF.out; omega)).mono ?_
        rintro e w4 ⟨rfl, F2, hd4, hfr, hnew⟩
        have hdid : Did F' F2 w3 w4 := ⟨hfr, hnew⟩
        have hA := hdid.block HA3.out.lt HY.out.1
        have hC := hdid.block HC3.out.lt HY.out.2
        have H4 : Hid (IsDsk w4 F2 b (D'.write (k + (j : Int)) (sec s.data.toList j)) ∧ Did F F2 w w4 ∧ putGo k s.data.toList g (j + 1) (D'.write (k + (j : Int)) (sec s.data.toList j)) = R ∧ (D'.write (k + (j : Int)) (sec s.data.toList j)).soft.length = D.soft.length + (j + 1)) :=
          ⟨hd4, HT3.out.trans hdid, HGO.out, by have := HI.out.2.2.2; simp [DskV.write]; omega⟩
        have HX4 : Hid (RfAt w4 w.heap.size 0 0 0 ∧ RfAt w4 (w.heap.size + 1) k (s.size : Int) (adl s.data.toList)) := ⟨HA3.out.of hA.1, HC3.out.of hC.1⟩
        have HY4 : Hid (¬ F2 w.heap.size ∧ ¬ F2 (w.heap.size + 1)) := ⟨hA.2.1, hC.2.1⟩
        clear hd4 hfr hnew hdid hA hC HD3 HT3 HA3 HC3 HI HX HY HGO HY0 HB0
        go_wp2
        go_roundg g
        case measure => omega
        case rel => exact ⟨j + 1, F2, _, by simp, by omega, H4, HX4, HY4⟩
      · have HRE := Lib.hid hre
        obtain ⟨ne, hne⟩ : ∃ ne, D'.refuse (k + (j : Int)) = ne := ⟨_, rfl⟩
        have HNE := Lib.hid hne
        have HGO := Lib.hid (show (D', ne) = R by
          rw [← HI.out.2.2.1, ← hne]
          exact (if_neg hre).symm)
        have hev : errV ne = .iface 57 (.int .i64 ne) := if_neg (hne ▸ hre)
        have HEV := Lib.hid hev
        clear hre hne hev
        go_wp2_with fail
        refine (write_bad HD3.out _ (sec s.data.toList j) HRE.out).mono ?_
        rintro e w4 ⟨rfl, hb4⟩
        rw [HNE.out, HEV.out]
        have r4 := HA3.out.below hb4
        have c0 := r4.c0
        have c1 := r4.c1
        have c2 := r4.c2
        have f0 := r4.f0
        have f1 := r4.f1
        have f2 := r4.f2
        have HR4 := Lib.hid r4
        have HD4 := Lib.hid (HD3.out.below hb4)
        have HT4 := Lib.hid (HT3.out.then hb4)
        clear hb4 r4 HD3 HT3 HA3 HC3 HX
        go_wp2
        have hld := lv_rf3 HR4.out 0 0 0
        have hR2 : R.2 = ne := by rw [← HGO.out]
        have hR1 : R.1 = D' := by rw [← HGO.out]
        refine bodyPost_ret (v := .tuple #[refV 0 0 0, .iface 57 (.int .i64 ne)]) ?_ rfl ⟨?_, F', ?_, HT4.out.rf3 (Nat.le_refl _) 0 0 0⟩
        · rw [results_cell2 rfl]
          simp [asAddr, Result.andThen, hld]
        · rw [← HV0.out, ← HEV0.out, hR2, HEV.out, if_neg (by rw [← HNE.out]; exact HRE.out)]
        · rw [hR1]
          exact HD4.out.rf3 HY.out.1 0 0 0
    · have hlt' : ¬ (j : Int) < (np : Int) := by omega
      obtain rfl : gk = 0 := by omega
      have c0 := HX.out.1.c0
      have c1 := HX.out.1.c1
      have c2 := HX.out.1.c2
      have f0 := HX.out.1.f0
      have f1 := HX.out.1.f1
      have f2 := HX.out.1.f2
      have g0 := HX.out.2.c0
      have g1 := HX.out.2.c1
      have g2 := HX.out.2.c2
      go_wp2
      have hld := lv_rf3 HX.out.1 k (s.size : Int) (adl s.data.toList)
      have hR2 : R.2 = 0 := by rw [← HI.out.2.2.1]; rfl
      have hR1 : R.1 = D' := by rw [← HI.out.2.2.1]; rfl
      refine bodyPost_ret (v := .tuple #[refV k (s.size : Int) (adl s.data.toList), .nilIface]) ?_ rfl ⟨?_, F', ?_, HI.out.2.1.rf3 (Nat.le_refl _) _ _ _⟩
      · rw [results_cell2 rfl]
        simp [asAddr, Result.andThen, hld]
      · rw [← HV0.out, ← HEV0.out, hR2]
        rfl
      · rw [hR1]
        exact HI.out.1.rf3 HY.out.1 _ _ _
end Go.Proofs.YtpimclhdimcioaaDoor
