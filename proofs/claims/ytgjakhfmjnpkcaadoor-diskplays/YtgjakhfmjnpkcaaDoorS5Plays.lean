/-
  DiskPlays walked: the law returns true. Condition: errorType holds error's type.
-/
import Derived.Test.YtgjakhfmjnpkcaaDoorS5Plays3
import Derived.Test.YtgjakhfmjnpkcaaDoorOldPg
import Derived.Deep.CutBlock
import Derived.Deep.RegionLaw
import Derived.Deep.DrawnRows
namespace Go.Proofs.YtgjakhfmjnpkcaaDoor
open Go.RowKit Go.Maps

attribute [local go_sem ↓] ldw_pg stw_pg alw_pg bdw_pg0 bdw_pg1 eqw_pg new_pg ldw_rd stw_rd ldw_act stw_act alw_act old_ldpg old_nepg old_bdpg old_ldrd
attribute [local go_sem] isPgV_ptr pgAtV_ptr thereV_ptr setV_ptr cellsV_agg pvEq_agg thereC_ptr cellsV_list oldC_forall
set_option maxRecDepth 10000 in
set_option maxHeartbeats 20000000 in
theorem plays_true (W : World) (size : Int) (hsz : -9223372036854775808 ≤ size ∧ size ≤ 9223372036854775807) (a0 : Option Addr) (cap0 : Nat) (L : List ActV) (hrow : RowN 67 actCells W a0 cap0 L) (hok : ∀ x ∈ L, x.ok) (hg : EtLaid W) :
    Calls Tryd.prog 3 #[.int .i64 size, .slice a0 L.length cap0] W fun e w' => e = .returned (.bool true) ∧ Below W.heap.size W w' := by
  have HG := Lib.hid hg
  have HROW := Lib.hid hrow
  have HOK := Lib.hid hok
  have HBT := Lib.hid hg.lt
  obtain ⟨n, hn⟩ : ∃ n, L.length = n := ⟨_, rfl⟩
  rw [hn]
  have HN := Lib.hid hn
  clear hg hrow hok hn
  go_enter Tryd.func3, Tryd.ntmps3
  go_wp2_with fail
  refine (awake_true W HG.out).mono ?_
  rintro e w1 ⟨rfl, hb1⟩
  have HB1 := Lib.hid hb1
  have HG1 := Lib.hid (HG.out.below HBT.out hb1)
  clear hb1
  by_cases h80 : (80 : Int) < (n : Int)
  · go_wp2_with fail
    refine (awake_true w1 HG1.out).mono ?_
    rintro e w2 ⟨rfl, hb2⟩
    have HB2 := Lib.hid hb2
    clear hb2
    go_wp2
    go_ret
    exact ⟨rfl, HB1.out.trans (HB2.out.mono HB1.out.size)⟩
  have hn80 : n ≤ 80 := by omega
  by_cases hbad : size < 1 ∨ 2048 < size
  · go_wp2_with fail
    refine (new_bad size hbad w1).mono ?_
    rintro e w2 ⟨rfl, rfl⟩
    rw [show Value.iface 57 (.int .i64 1) = errV 1 from rfl]
    rcases hbad with hbad | hbad
    · go_wp2_with fail
      refine (code_err 1 w1 HG1.out).mono ?_
      rintro e w2 ⟨rfl, hb2⟩
      have HB2 := Lib.hid hb2
      clear hb2
      go_wp2
      go_ret
      exact ⟨rfl, HB1.out.trans (HB2.out.mono HB1.out.size)⟩
    · have hge : ¬ size < 1 := by omega
      go_wp2_with fail
      refine (code_err 1 w1 HG1.out).mono ?_
      rintro e w2 ⟨rfl, hb2⟩
      have HB2 := Lib.hid hb2
      clear hb2
      go_wp2
      go_ret
      exact ⟨rfl, HB1.out.trans (HB2.out.mono HB1.out.size)⟩
  have hs1 : ¬ size < 1 := by omega
  have hs2 : ¬ 2048 < size := by omega
  go_wp2_with fail
  refine (ses_new (W := W) (B := W.heap.size) size (by omega) (by omega) HB1.out (Nat.le_refl _) HG1.out).mono ?_
  rintro e w2 ⟨b, F2, rfl, hs2', _, _⟩
  have HS2 := Lib.hid hs2'
  clear hs2' hbad
  by_cases h50 : 50 < size
  · go_wp2_with fail
    refine (ses_code HS2.out 0).mono ?_
    rintro e w3 ⟨rfl, hs3, _⟩
    have HS3 := Lib.hid hs3
    have HSZ := Lib.hid (size_any hs3.dsk)
    clear hs3
    go_wp2_with fail
    refine HSZ.out.mono ?_
    rintro e w4 ⟨rfl, rfl⟩
    rw [show (DskV.fresh size).size = size from rfl]
    go_wp2
    go_ret
    exact ⟨rfl, HS3.out.below⟩
  have HY0 : Hid (Both W b w2.heap.size size (DskV.fresh size) F2 [] (w2.alloc (.cells #[.int .i64 size, .slice none 0 0, .slice none 0 0, .slice none 0 0, .bool false, .int .i64 (-1)] 35))) := by
    have hx := HS2.out.box (.cells #[.int .i64 size, .slice none 0 0, .slice none 0 0, .slice none 0 0, .bool false, .int .i64 (-1)] 35)
    refine ⟨hx.1, ⟨none, none, none, 0, 0, 0, range_cells _ _ rfl [.int .i64 size, .slice none 0 0, .slice none 0 0, .slice none 0 0, .bool false, .int .i64 (-1)] 35, there_cells _ _ rfl #[.int .i64 size, .slice none 0 0, .slice none 0 0, .slice none 0 0, .bool false, .int .i64 (-1)] 35, ⟨Nat.zero_le _, .inl rfl⟩, ⟨Nat.zero_le _, .inl rfl⟩, ⟨Nat.zero_le _, .inl rfl⟩, hx.2.1, hx.2.2, fun ad e => (by cases e), fun ad e => (by cases e), fun ad e => (by cases e)⟩, link_fresh size, rfl, HS2.out.below.size, fun y hy => (by cases hy)⟩
  go_wp2_with fail
  clear h80 hs1 hs2
  generalize w2.alloc (.cells #[.int .i64 size, .slice none 0 0, .slice none 0 0, .slice none 0 0, .bool false, .int .i64 (-1)] 35) = w3 at *
  generalize w2.heap.size = Y at *
  clear HS2
  go_loopg [8, 9, 10, 11, 12, 13, 14, 15, 16, 17] n (fun gg v8 v9 _ _ _ _ _ _ _ _ wx => ∃ (k : Nat) (F : Nat → Prop) (D : DskV) (R : List RfL), v8 = .int .i64 (D.soft.length : Int) ∧ v9 = .int .i64 (k : Int) ∧ k + gg = n ∧ Hid (Both W b Y size D F R wx ∧ R.length ≤ k))
  case atStart => exact ⟨0, F2, DskV.fresh size, [], rfl, rfl, by omega, HY0.out, Nat.le_refl _⟩
  case round =>
    clear HY0
    obtain ⟨k, F, D, R, rfl, rfl, hk, HS⟩ := hrel
    by_cases hlt : k < n
    · have hlt' : (k : Int) < (n : Int) := by omega
      have hw1 : IntKind.i64.wrap ((k : Int) + 1) = (k : Int) + 1 := IntWalk.i64_in _ (by omega)
      obtain ⟨ba, off, x, rfl, hba, hra, hxm, htk, hdr⟩ := HROW.out.at HS.out.1.1.below (k := k) (by have := HN.out; omega)
      have hxo := HOK.out x hxm
      have hx64 := hxo.2.2.1
      have hwt := hxo.1
      have q1 := isCh hra (actCells_len hxo)
      have q2 := chAt_eq hra (actCells_len hxo)
      have q3 : IsCv 67 (.agg (actCells x).toArray) := ⟨_, actCells_len hxo, actCells_one x, rfl⟩
      have q4 : (wr.alloc (.cells zac 40)).there wr.heap.size 0 67 := zac_size ▸ there_cells wr _ rfl zac 40
      have q5 : (wr.alloc (.cells zac 40)).setCells wr.heap.size 0 (actCells x) = wr.alloc (.cells (actCells x).toArray 40) := set_new rfl (by rw [zac_size, actCells_len hxo])
      have hac := act_at hx64 (range_cells wr wr.heap.size rfl (actCells x) 40)
      have hbw : Below wr.heap.size wr (wr.alloc (.cells (actCells x).toArray 40)) := (Below.refl _ _).alloc (Nat.le_refl _) _
      have HB4 : Hid (Both W b Y size D F R (wr.alloc (.cells (actCells x).toArray 40)) ∧ ¬ F wr.heap.size ∧ Y ≠ wr.heap.size ∧ wr.heap.size < (wr.alloc (.cells (actCells x).toArray 40)).heap.size ∧ W.heap.size ≤ wr.heap.size) := by
        obtain ⟨h1, h2, h3⟩ := HS.out.1
        exact ⟨⟨h1.keep hbw, h2.below hbw, h3⟩, fun e => Nat.lt_irrefl _ (h1.dsk.lt _ e), Nat.ne_of_lt h2.lt.1, by simp, h1.below.size⟩
      obtain ⟨c1, c2, c3, c4⟩ := hac
      simp only [Nat.zero_add] at c2 c3 c4
      have HC2 := Lib.hid c2
      have HC3 := Lib.hid c3
      have HC4 := Lib.hid c4
      have HXO := Lib.hid hxo
      clear hra htk hdr hxm hba hbw c2 c3 c4 hxo
      go_upto_block 2 with fail
      clear q1 q2 q3 q4 q5
      generalize wr.alloc (.cells (actCells x).toArray 40) = w4 at *
      generalize wr.heap.size = T at *
      go_cut [8, 11, 12, 13] from 57 to 183 (fun v8 _ _ _ wc => ∃ (F' : Nat → Prop) (D' : DskV) (R' : List RfL), v8 = .int .i64 (D'.soft.length : Int) ∧ Hid (Both W b Y size D' F' R' wc ∧ R'.length ≤ k + 1))
      case first =>
        obtain ⟨aA, aW, aF, cA, cW, cF, hrf⟩ := HB4.out.1.2.1
        have HRF := Lib.hid hrf
        have hRk := HS.out.2
        have h6 : IsCh 6 w4 (.pointer (some ⟨Y, 0, none⟩)) := isCh hrf.cs rfl
        have h7 := chAt_eq (n := 6) hrf.cs rfl
        have hFlt := HB4.out.1.1.dsk.lt
        have HFL := Lib.hid hFlt
        have d4 := hrf.at (j := 4) rfl
        clear hrf hFlt c1 hx64
        have h8 : x.what % 8 = 4 ∨ x.what % 8 = 5 ∨ x.what % 8 = 6 ∨ x.what % 8 = 7 ∨ (0 ≤ x.what % 8 ∧ x.what % 8 < 4) := by omega
        rcases h8 with h8 | h8 | h8 | h8 | h8
        · -- Flush
          have e4 : (x.what % 8 == 4) = true := by simp [h8]
          cases hdn : D.down with
          | true =>
            rw [hdn] at d4
            go_wp2_with fail
            refine (ses_flush HB4.out.1.1 HBT.out).mono ?_
            rintro e w5 ⟨rfl, F5, hs5, hd5⟩
            rw [hdn, show errV (if true = true then 11 else 0) = errV 11 from rfl]
            have hfl : D.flushed = D := by unfold DskV.flushed; rw [hdn]; rfl
            rw [hfl] at hs5
            have HB5 : Hid (Both W b Y size D F5 R w5) := ⟨hs5, HB4.out.1.2.1.did hd5, HB4.out.1.2.2⟩
            clear hs5 hd5 hfl
            go_wp2_with fail
            refine (ses_code HB5.out.1 11).mono ?_
            rintro e w6 ⟨rfl, hs6, hb6⟩
            have HB6 : Hid (Both W b Y size D F5 R w6) := ⟨hs6, HB5.out.2.1.below hb6, HB5.out.2.2⟩
            clear hs6 hb6
            go_wp2_with fail
            go_meet
            exact ⟨F5, D, R, rfl, HB6.out, by omega⟩
          | false =>
            rw [hdn] at d4 h7
            have HRF2 := Lib.hid HRF.out
            rw [hdn] at HRF2
            go_wp2_with fail
            refine (HRF2.out.settle HFL.out HB4.out.1.2.2.2.2.2 (by omega) 18446744073709551615 mask_one).mono ?_
            rintro e w5 ⟨v, rfl, hgv⟩
            have t1 := (hgv.store w5 (Below.refl _ _)).1
            have t2 : IsCv 6 (.agg v.toArray) := ⟨v, hgv.len, hgv.one, rfl⟩
            have HB5 : Hid (Ses W W.heap.size F b D (w5.setCells Y 0 v) ∧ RfE (w5.setCells Y 0 v) Y F size D.budget D.down ((stl 18446744073709551615 R).2.map fun z => (z.1, z.2, true))) := ⟨(HB4.out.1.1.keep hgv.below).beside HB4.out.1.2.2.2.2.1 HRF.out.free HBT.out _ _, by rw [hdn]; exact (hgv.store w5 (Below.refl _ _)).2⟩
            clear hgv
            go_wp2_with fail
            refine (ses_flush HB5.out.1 HBT.out).mono ?_
            rintro e w6 ⟨rfl, F6, hs6, hd6⟩
            rw [hdn, show errV (if false = true then 11 else 0) = errV 0 from rfl]
            have hfl : D.flushed = D.flush := flushed_up hdn
            rw [hfl] at hs6
            have HB6 : Hid (Both W b Y size D.flush F6 ((stl 18446744073709551615 R).2.map fun z => (z.1, z.2, true)) w6) := ⟨hs6, HB5.out.2.did hd6, HB4.out.1.2.2.1.flush, HB4.out.1.2.2.2.1, HB4.out.1.2.2.2.2.1, fun y hy => by
              obtain ⟨z, hz, rfl⟩ := List.mem_map.1 hy
              obtain ⟨u, hu, rfl⟩ := stl_mem _ R z hz
              exact HB4.out.1.2.2.2.2.2 u hu⟩
            clear hs6 hd6 hfl t1 t2
            go_wp2_with fail
            refine (ses_code HB6.out.1 0).mono ?_
            rintro e w7 ⟨rfl, hs7, hb7⟩
            have HB7 : Hid (Both W b Y size D.flush F6 ((stl 18446744073709551615 R).2.map fun z => (z.1, z.2, true)) w7) := ⟨hs7, HB6.out.2.1.below hb7, HB6.out.2.2⟩
            clear hs7 hb7
            go_wp2_with fail
            go_meet
            exact ⟨F6, D.flush, _, rfl, HB7.out, by rw [List.length_map]; have := (stl_le 18446744073709551615 R).2; omega⟩
        · -- Crash
          have e4 : (x.what % 8 == 4) = false := by simp [h8]
          have e5 : (x.what % 8 == 5) = true := by simp [h8]
          have c4 := HC4.out
          have hmm : 0 ≤ x.mask ∧ x.mask ≤ 18446744073709551615 := HXO.out.2.2.2
          have HMM := Lib.hid hmm
          clear d4 hmm h6 h7
          go_wp2_with fail
          refine (ses_crash HB4.out.1.1 HBT.out x.mask HMM.out.1 HMM.out.2).mono ?_
          rintro e w5 ⟨rfl, F5, hs5, hd5⟩
          have hT := hd5.block HB4.out.2.2.2.1 HB4.out.2.1
          have c4' : w5.cell? ⟨T, 66, none⟩ = some (.int .u64 x.mask) := by rw [World.cell?_of_block (w := w4) hT.1]; exact c4
          obtain ⟨aA, aW, aF, cA, cW, cF, hrf⟩ := HB4.out.1.2.1.did hd5
          have h6 : IsCh 6 w5 (.pointer (some ⟨Y, 0, none⟩)) := isCh hrf.cs rfl
          have h7 := chAt_eq (n := 6) hrf.cs rfl
          have HRF := Lib.hid hrf
          have HS5 := Lib.hid hs5
          clear hrf hs5 hd5 hT c4
          go_wp2_with fail
          refine (HRF.out.settle HS5.out.dsk.lt HB4.out.1.2.2.2.2.2 (by omega) x.mask HMM.out).mono ?_
          rintro e w6 ⟨v, rfl, hgv⟩
          have t1 := (hgv.store w6 (Below.refl _ _)).1
          have t2 : IsCv 6 (.agg v.toArray) := ⟨v, hgv.len, hgv.one, rfl⟩
          have HB6 : Hid (Ses W W.heap.size F5 b (D.crash x.mask) (w6.setCells Y 0 v) ∧ RfE (w6.setCells Y 0 v) Y F5 size D.budget D.down ((stl x.mask R).2.map fun z => (z.1, z.2, true))) := ⟨(HS5.out.keep hgv.below).beside HB4.out.1.2.2.2.2.1 HRF.out.free HBT.out _ _, (hgv.store w6 (Below.refl _ _)).2⟩
          obtain ⟨aA2, aW2, aF2, cA2, cW2, cF2, hrf2⟩ := HB6.out.2
          have d4 := hrf2.at (j := 4) rfl
          have f4 := hrf2.fz (j := 4) (by decide)
          have HB7 : Hid (Both W b Y size (D.crash x.mask) F5 ((stl x.mask R).2.map fun z => (z.1, z.2, true)) ((w6.setCells Y 0 v).setCell ⟨Y, 4, none⟩ (.bool true))) :=
            ⟨HB6.out.1.beside HB4.out.1.2.2.2.2.1 hrf2.free HBT.out 4 [.bool true], ⟨aA2, aW2, aF2, cA2, cW2, cF2, hrf2.put (by decide) rfl⟩, HB4.out.1.2.2.1.settle x.mask, HB4.out.1.2.2.2.1, HB4.out.1.2.2.2.2.1, fun y hy => by
              obtain ⟨z, hz, rfl⟩ := List.mem_map.1 hy
              obtain ⟨u, hu, rfl⟩ := stl_mem _ R z hz
              exact HB4.out.1.2.2.2.2.2 u hu⟩
          clear hgv hrf2 h6 h7 c4'
          go_wp2_with fail
          go_meet
          exact ⟨F5, D.crash x.mask, _, rfl, HB7.out, by rw [List.length_map]; have := (stl_le x.mask R).2; omega⟩
        · -- Up
          have e4 : (x.what % 8 == 4) = false := by simp [h8]
          have e5 : (x.what % 8 == 5) = false := by simp [h8]
          have e6 : (x.what % 8 == 6) = true := by simp [h8]
          clear d4 h6 h7
          go_wp2_with fail
          refine (ses_up HB4.out.1.1 HBT.out).mono ?_
          rintro e w5 ⟨rfl, hs5, hd5⟩
          obtain ⟨aA, aW, aF, cA, cW, cF, hrf⟩ := HB4.out.1.2.1.did hd5
          have d4 := hrf.at (j := 4) rfl
          have f4 := hrf.fz (j := 4) (by decide)
          have HB7 : Hid (Both W b Y size { D with down := false } F R (w5.setCell ⟨Y, 4, none⟩ (.bool false))) :=
            ⟨hs5.beside HB4.out.1.2.2.2.2.1 hrf.free HBT.out 4 [.bool false], ⟨aA, aW, aF, cA, cW, cF, hrf.put (by decide) rfl⟩, HB4.out.1.2.2.1.same rfl rfl, HB4.out.1.2.2.2⟩
          clear hs5 hd5 hrf
          go_wp2_with fail
          go_meet
          exact ⟨F, { D with down := false }, R, rfl, HB7.out, by omega⟩
        · -- Budget
          have e4 : (x.what % 8 == 4) = false := by simp [h8]
          have e5 : (x.what % 8 == 5) = false := by simp [h8]
          have e6 : (x.what % 8 == 6) = false := by simp [h8]
          have e7 : (x.what % 8 == 7) = true := by simp [h8]
          have c2 := HC2.out
          have hpl : -9223372036854775808 ≤ x.place ∧ x.place ≤ 9223372036854775807 := HXO.out.2.1
          clear d4 h6 h7
          go_wp2_with fail
          refine (ses_budget HB4.out.1.1 HBT.out x.place hpl.2).mono ?_
          rintro e w5 ⟨rfl, hs5, hd5⟩
          have hT := hd5.block HB4.out.2.2.2.1 HB4.out.2.1
          have c2' : w5.cell? ⟨T, 1, none⟩ = some (.int .i64 x.place) := by rw [World.cell?_of_block (w := w4) hT.1]; exact c2
          obtain ⟨aA, aW, aF, cA, cW, cF, hrf⟩ := HB4.out.1.2.1.did hd5
          have d5 := hrf.at (j := 5) rfl
          have f5 := hrf.fz (j := 5) (by decide)
          have HRF := Lib.hid hrf
          have HS5 := Lib.hid hs5
          clear hs5 hd5 hrf hT c2
          by_cases hlt1 : x.place < -1
          · have HB7 : Hid (Both W b Y size { D with budget := -1 } F R (w5.setCell ⟨Y, 5, none⟩ (.int .i64 (-1)))) := by
              refine ⟨?_, ⟨aA, aW, aF, cA, cW, cF, HRF.out.put (by decide) rfl⟩, HB4.out.1.2.2.1.same rfl rfl, HB4.out.1.2.2.2⟩
              have := HS5.out
              rw [if_pos hlt1] at this
              exact this.beside HB4.out.1.2.2.2.2.1 HRF.out.free HBT.out 5 [.int .i64 (-1)]
            go_wp2_with fail
            all_goals
              go_meet
              exact ⟨F, { D with budget := -1 }, R, rfl, HB7.out, by omega⟩
          · have HB7 : Hid (Both W b Y size { D with budget := x.place } F R (w5.setCell ⟨Y, 5, none⟩ (.int .i64 x.place))) := by
              refine ⟨?_, ⟨aA, aW, aF, cA, cW, cF, HRF.out.put (by decide) rfl⟩, HB4.out.1.2.2.1.same rfl rfl, HB4.out.1.2.2.2⟩
              have := HS5.out
              rw [if_neg hlt1] at this
              exact this.beside HB4.out.1.2.2.2.2.1 HRF.out.free HBT.out 5 [.int .i64 x.place]
            go_wp2_with fail
            all_goals
              go_meet
              exact ⟨F, { D with budget := x.place }, R, rfl, HB7.out, by omega⟩
        · -- Write
          have e4 : (x.what % 8 == 4) = false := by simp; omega
          have e5 : (x.what % 8 == 5) = false := by simp; omega
          have e6 : (x.what % 8 == 6) = false := by simp; omega
          have e7 : (x.what % 8 == 7) = false := by simp; omega
          have c2 := HC2.out
          have hx64 : x.page.length = 64 := HXO.out.2.2.1
          have g1 := isPg HC3.out hx64
          have g2 := pgAt_eq HC3.out hx64
          clear d4
          have HRW := Lib.hid (HRF.out.write (D := D) rfl rfl HB4.out.1.2.2.2.1.symm HB4.out.1.1.dsk.ok HFL.out HB4.out.1.2.2.2.2.2 (by omega) x.place x.page hx64)
          obtain ⟨f, hf⟩ : ∃ f, f = D.refuse x.place := ⟨_, rfl⟩
          rw [← hf] at HRW
          have HF0 := Lib.hid hf
          clear hf
          go_wp2_with fail
          refine HRW.out.mono ?_
          rintro e w5 ⟨v, rfl, hgv⟩
          have t1 : (w5.alloc (.cells #[.int .i64 0, .slice none 0 0, .slice none 0 0, .slice none 0 0, .bool false, .int .i64 0] 35)).there w5.heap.size 0 6 := there_cells w5 _ rfl #[.int .i64 0, .slice none 0 0, .slice none 0 0, .slice none 0 0, .bool false, .int .i64 0] 35
          have t2 : IsCv 6 (.agg v.toArray) := ⟨v, hgv.len, hgv.one, rfl⟩
          have t3 : (w5.alloc (.cells #[.int .i64 0, .slice none 0 0, .slice none 0 0, .slice none 0 0, .bool false, .int .i64 0] 35)).setCells w5.heap.size 0 v = w5.alloc (.cells v.toArray 35) := set_new rfl (by rw [hgv.len]; rfl)
          have hr6 := range_cells w5 w5.heap.size rfl v 35
          have t4 := isCh hr6 hgv.len
          have t5 := chAt_eq hr6 hgv.len
          have hb6 : Below w5.heap.size w5 (w5.alloc (.cells v.toArray 35)) := (Below.refl _ _).alloc (Nat.le_refl _) _
          have t6 := (hgv.store _ hb6).1
          have hb46 : Below w4.heap.size w4 (w5.alloc (.cells v.toArray 35)) := hgv.below.trans (hb6.mono hgv.below.size)
          have HB7 : Hid (Ses W W.heap.size F b D ((w5.alloc (.cells v.toArray 35)).setCells Y 0 v) ∧ RfE ((w5.alloc (.cells v.toArray 35)).setCells Y 0 v) Y F size (D.wrote x.place x.page).budget (D.wrote x.place x.page).down (if f = 0 then R ++ [(x.place, x.page, false)] else R)) := ⟨(HB4.out.1.1.keep hb46).beside HB4.out.1.2.2.2.2.1 HRF.out.free HBT.out _ _, (hgv.store _ hb6).2⟩
          have hT7 : ((w5.alloc (.cells v.toArray 35)).setCells Y 0 v).heap[T]? = w4.heap[T]? := (heap_setCells_ne Y v _ 0 T HB4.out.2.2.1.symm).trans (hb46.block T HB4.out.2.2.2.1)
          have c27 : ((w5.alloc (.cells v.toArray 35)).setCells Y 0 v).cell? ⟨T, 1, none⟩ = some (.int .i64 x.place) := by rw [World.cell?_of_block (w := w4) hT7]; exact c2
          have hr7 : ((w5.alloc (.cells v.toArray 35)).setCells Y 0 v).rangeAt T 2 (cellsB x.page) := fun j u hu => by rw [World.cell?_of_block (w := w4) hT7]; exact HC3.out j u hu
          have g3 := isPg hr7 hx64
          have g4 := pgAt_eq hr7 hx64
          have HWR := ses_write HB7.out.1 HBT.out x.place x.page hx64 (by have := link_len HB4.out.1.2.2.1; omega)
          rw [← HF0.out] at HWR
          have HWR := Lib.hid HWR
          clear hgv hr6 hb6 hb46 hT7 hr7 HRW
          by_cases hf0 : f = 0
          · have hfb : (f == 0) = true := by simp [hf0]
            have hw2 : IntKind.i64.wrap ((D.soft.length : Int) + 1) = (D.soft.length : Int) + 1 := IntWalk.i64_in _ (by have := link_len HB4.out.1.2.2.1; omega)
            go_wp2_with fail
            refine HWR.out.mono ?_
            rintro e w8 ⟨rfl, F8, hs8, hd8⟩
            have hwr : D.wrote x.place x.page = D.write x.place x.page := if_pos (by rw [← HF0.out]; exact hf0)
            have hrf8 := HB7.out.2.did hd8
            rw [hwr, if_pos hf0] at hrf8
            rw [hwr] at hs8
            have HB8 : Hid (Both W b Y size (D.write x.place x.page) F8 (R ++ [(x.place, x.page, false)]) w8) := ⟨hs8, hrf8, HB4.out.1.2.2.1.write _ _, HB4.out.1.2.2.2.1, HB4.out.1.2.2.2.2.1, fun y hy => by
              rcases List.mem_append.1 hy with hy | hy
              · exact HB4.out.1.2.2.2.2.2 y hy
              · rw [List.mem_singleton.1 hy]; exact hx64⟩
            clear hs8 hd8 hwr hrf8 t1 t2 t3 t4 t5 t6 g3 g4 c27
            go_wp2_with fail
            refine (ses_code HB8.out.1 0).mono ?_
            rintro e w9 ⟨rfl, hs9, hb9⟩
            have HB9 : Hid (Both W b Y size (D.write x.place x.page) F8 (R ++ [(x.place, x.page, false)]) w9) := ⟨hs9, HB8.out.2.1.below hb9, HB8.out.2.2⟩
            clear hs9 hb9
            go_wp2_with fail
            go_meet
            exact ⟨F8, D.write x.place x.page, _, by show _ = Value.int .i64 (((D.soft ++ [(x.place, x.page)]).length : Nat) : Int); simp, HB9.out, by simp; omega⟩
          · have hfb : (f == 0) = false := by simp [hf0]
            go_wp2_with fail
            refine HWR.out.mono ?_
            rintro e w8 ⟨rfl, F8, hs8, hd8⟩
            have hwr : D.wrote x.place x.page = D := if_neg (by rw [← HF0.out]; exact hf0)
            have hrf8 := HB7.out.2.did hd8
            rw [hwr, if_neg hf0] at hrf8
            rw [hwr] at hs8
            have HB8 : Hid (Both W b Y size D F8 R w8) := ⟨hs8, hrf8, HB4.out.1.2.2⟩
            clear hs8 hd8 hwr hrf8 t1 t2 t3 t4 t5 t6 g3 g4 c27
            go_wp2_with fail
            refine (ses_code HB8.out.1 f).mono ?_
            rintro e w9 ⟨rfl, hs9, hb9⟩
            have HB9 : Hid (Both W b Y size D F8 R w9) := ⟨hs9, HB8.out.2.1.below hb9, HB8.out.2.2⟩
            clear hs9 hb9
            go_wp2_with fail
            go_meet
            exact ⟨F8, D, R, rfl, HB9.out, by omega⟩
      case rest =>
        obtain ⟨F', D', R', rfl, HB⟩ := hcut
        have hR1 := HB.out.2
        clear c1 hx64 hwt HC2 HC3 HC4 HXO HB4 HS
        go_wp2_with fail
        go_loopg [14, 15, 16, 17] (size + 2).toNat (fun g2 v14 _ _ _ wx => ∃ j : Int, v14 = .int .i64 j ∧ j + (g2 : Int) = size + 1 ∧ -1 ≤ j ∧ Hid (Both W b Y size D' F' R' wx))
        case atStart => exact ⟨-1, rfl, by omega, by omega, HB.out.1⟩
        case round =>
          clear HB
          obtain ⟨j, rfl, hj, hj1, HJ⟩ := hrel
          by_cases hjs : j ≤ size
          · have hwj : IntKind.i64.wrap (j + 1) = j + 1 := IntWalk.i64_in _ (by omega)
            have HRD := ses_read HJ.out.1 j
            obtain ⟨pj, hpj⟩ : ∃ pj, pj = D'.seen j := ⟨_, rfl⟩
            obtain ⟨ne, hne⟩ : ∃ ne, ne = D'.why j := ⟨_, rfl⟩
            rw [← hpj, ← hne] at HRD
            have HRD := Lib.hid HRD
            have hp64 : pj.length = 64 := by
              rw [hpj]
              unfold DskV.seen
              split
              · exact HJ.out.1.dsk.ok.read j
              · exact zpg_len
            have HPJ := Lib.hid hpj
            have HNE := Lib.hid hne
            have q1 := isPv_agg hp64
            have q1z := isPv_agg zpg_len
            clear hpj hne
            go_wp2_with fail
            refine HRD.out.mono ?_
            rintro e w7 ⟨rfl, hs7, hb7⟩
            have q2 := there_zp w7 37
            have q3 := set_zp (w := w7) (N := w7.heap.size) rfl (t := 37) hp64
            have hb8 : Below w7.heap.size w7 (w7.alloc (.cells (cellsB pj).toArray 37)) := (Below.refl _ _).alloc (Nat.le_refl _) _
            have HB8 : Hid (Both W b Y size D' F' R' (w7.alloc (.cells (cellsB pj).toArray 37)) ∧ (w7.alloc (.cells (cellsB pj).toArray 37)).rangeAt w7.heap.size 0 (cellsB pj) ∧ w7.heap.size < (w7.alloc (.cells (cellsB pj).toArray 37)).heap.size) :=
              ⟨⟨hs7.keep hb8, (HJ.out.2.1.below hb7).below hb8, HJ.out.2.2⟩, range_cells w7 w7.heap.size rfl (cellsB pj) 37, by simp⟩
            obtain ⟨aA, aW, aF, cA, cW, cF, hrf⟩ := HB8.out.1.2.1
            have d4 := hrf.at (j := 4) rfl
            have HRF := Lib.hid hrf
            clear hs7 hb7 hb8 hrf
            go_upto_if 142 with fail
            clear q2 q3
            generalize w7.alloc (.cells (cellsB pj).toArray 37) = w8 at *
            generalize w7.heap.size = N8 at *
            -- what is wanted
            go_cut [17] from 130 to 173 (fun v17 wc => v17 = .int .i64 ne ∧ w8 = wc)
            case first =>
              cases hdn : D'.down with
              | true =>
                rw [hdn] at d4
                have hn2 := Lib.hid (show ne = 11 by rw [HNE.out]; unfold DskV.why; rw [hdn]; rfl)
                go_wp2_with fail
                go_meet
                exact ⟨by rw [hn2.out], rfl⟩
              | false =>
                rw [hdn] at d4
                by_cases h0 : j < 0
                · have hn2 := Lib.hid (show ne = 1 by rw [HNE.out]; unfold DskV.why; rw [hdn]; simp [h0])
                  go_wp2_with fail
                  go_meet
                  exact ⟨by rw [hn2.out], rfl⟩
                · by_cases h1 : size ≤ j
                  · have hn2 := Lib.hid (show ne = 1 by rw [HNE.out]; unfold DskV.why; rw [hdn, HB8.out.1.2.2.2.1]; simp [h1])
                    go_wp2_with fail
                    go_meet
                    exact ⟨by rw [hn2.out], rfl⟩
                  · have hn2 := Lib.hid (show ne = 0 by rw [HNE.out]; unfold DskV.why; rw [hdn, HB8.out.1.2.2.2.1]; simp; omega)
                    go_wp2_with fail
                    go_meet
                    exact ⟨by rw [hn2.out], rfl⟩
            case rest =>
              obtain ⟨rfl, rfl⟩ := hcut
              clear d4
              have y1 := isPg HB8.out.2.1 hp64
              have y2 := pgAt_eq HB8.out.2.1 hp64
              have HCE : Hid (∀ w', OldC w8 w' → Calls Tryd.prog 10 #[errV ne] w' fun e w'' => e = .returned (.int .i64 ne) ∧ OldC w8 w'') := fun w' hw' => by
                refine (code_err ne w' (HB8.out.1.1.et.below HB8.out.1.1.et.lt hw')).mono ?_
                rintro e w'' ⟨rfl, hb⟩
                exact ⟨rfl, hw'.then hb⟩
              by_cases hn0 : ne = 0
              · have h6 := isCh (n := 6) HRF.out.cs rfl
                have h7 := chAt_eq (n := 6) HRF.out.cs rfl
                have hpr : pj = D'.read j := by rw [HPJ.out]; exact if_pos (by rw [← HNE.out]; exact hn0)
                have HRR : Hid (∀ w', OldC w8 w' → Calls Tryd.prog 20 #[.agg #[.int .i64 size, .slice aA R'.length cA, .slice aW R'.length cW, .slice aF R'.length cF, .bool D'.down, .int .i64 D'.budget], .int .i64 j] w' fun e w'' => e = .returned (.agg (cellsB pj).toArray) ∧ OldC w8 w'') := fun w' hw' => by
                  refine ((HRF.out.below hw').read HB8.out.1.2.2.1 HB8.out.1.2.2.2.2.2 (by omega) j).mono ?_
                  rintro e w'' ⟨rfl, hb⟩
                  exact ⟨by rw [hpr], hw'.then hb⟩
                subst hn0
                clear hpr
                go_wp2_with fail
                refine wp_region_old (by kernel_rfl) (by kernel_rfl) ?_
                repeat (go_big_quiet_step ((first | (intro hw; exact HCE.out _ hw) | (intro hw; exact HRR.out _ hw))))
                refine wpQuiet_nil ?_
                intro w9 hw9
                have HB9 : Hid (Both W b Y size D' F' R' w9) := ⟨HB8.out.1.1.keep hw9, HB8.out.1.2.1.below hw9, HB8.out.1.2.2⟩
                clear hw9 y1 y2 h6 h7
                go_wp2_with fail
                go_roundg (gk - 1)
                case measure => omega
                case rel => exact ⟨j + 1, rfl, by omega, by omega, HB9⟩
              · have hnb : (ne == 0) = false := by simp [hn0]
                have hnb2 : (ne != 0) = true := by simp [hn0]
                have hpz : pj = zpg := by rw [HPJ.out]; exact if_neg (by rw [← HNE.out]; exact hn0)
                have hpe : (pj == zpg) = true := by simp [hpz]
                clear hpz
                go_wp2_with fail
                refine wp_region_old (by kernel_rfl) (by kernel_rfl) ?_
                repeat (go_big_quiet_step ((intro hw; exact HCE.out _ hw)))
                refine wpQuiet_nil ?_
                intro w9 hw9
                have HB9 : Hid (Both W b Y size D' F' R' w9) := ⟨HB8.out.1.1.keep hw9, HB8.out.1.2.1.below hw9, HB8.out.1.2.2⟩
                clear hw9 y1 y2
                go_wp2_with fail
                go_roundg (gk - 1)
                case measure => omega
                case rel => exact ⟨j + 1, rfl, by omega, by omega, HB9⟩
          · have hjs' : ¬ j ≤ size := hjs
            have hlen := HJ.out.1.dsk
            have SF := Lib.hid (soft_any HJ.out.1.dsk)
            have SZ := size_any HJ.out.1.dsk
            rw [HJ.out.2.2.2.1] at SZ
            have SZ := Lib.hid SZ
            clear hlen
            go_wp2_with fail
            refine SF.out.mono ?_
            rintro e w7 ⟨rfl, rfl⟩
            go_wp2_with fail
            refine SZ.out.mono ?_
            rintro e w7 ⟨rfl, rfl⟩
            go_wp2_with fail
            go_roundg (n - (k + 1))
            case measure => omega
            case rel => exact ⟨k + 1, F', D', R', rfl, by simp, by omega, HJ.out, hR1⟩
    · have hlt' : ¬ (k : Int) < (n : Int) := by omega
      go_wp2_with fail
      refine (ses_code HS.out.1.1 0).mono ?_
      rintro e w4 ⟨rfl, hs4, _⟩
      have HS4 := Lib.hid hs4
      clear hs4
      go_wp2
      go_ret
      exact ⟨rfl, HS4.out.below⟩
end Go.Proofs.YtgjakhfmjnpkcaaDoor
