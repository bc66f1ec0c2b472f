/-
  The law BlobPlays, walked where a text is put: it returns true and changes nothing that was there. Condition: errorType holds error's type.
-/
import Derived.Test.YtpimclhdimcioaaDoorS7Plays
import Derived.Test.YtpimclhdimcioaaDoorS2Four
import Derived.Laws.OwnMore
namespace Go.Proofs.YtpimclhdimcioaaDoor
open Go.RowKit Go.Maps
open Extern.Stop (cell)

theorem ownP_at {w : World} {B g np cap : Nat} {l : List UInt8} (h : OwnP w B (.slice (some ⟨g, 0, none⟩) np cap) np l) {j : Nat} (hj : j < np) : w.rangeAt g (j * 64) (cellsB (sec l j)) := fun t v hv => by
  have ht : t < 64 := by
    have := (List.getElem?_eq_some_iff.1 hv).1
    rwa [cellsB_len, sec_len] at this
  have h1 := World.ownsRow.cellAt h (j * 64 + t) (by omega)
  rw [h1, ← hv, cellsB, cellsB, List.getElem?_map, List.getElem?_map, fl_get _ _ _ (by omega), sec_get _ _ _ ht, Nat.mul_comm]
theorem alw_ar7 {d : Option Tmp} {ty : TypeId} {pos : String} {af : Array Edge} {g : Option (Nat × Bool)} {a : Act} {w : World} {K : Act → World → Prop} {Q : Exit → Act → World → Prop} :
    Oper.wp Tryd.prog { dst := d, op := .alloc 39, type := ty, pos := pos, after := af, guard := g } a w K Q = K (a.put d (.pointer (some ⟨w.heap.size, 0, none⟩))) (w.alloc (.cells zpc 39)) := by
  have h : (Instr.alloc 39 true (.tuple #[])).run Tryd.prog w = .ok (.pointer (some ⟨w.heap.size, 0, none⟩)) (w.alloc (.cells zpc 39)) := by kernel_rfl
  unfold Oper.wp execOp
  simp only [Sem.run_bind, Sem.run_pure, Result.andThen_ok, h]
  rfl
attribute [local go_sem ↓] ldw_pg stw_pg alw_pg ldw_ar stw_ar alw_ar7 eqw_pg new_pg old_ldrf
attribute [local go_sem] isPgV_ptr pgAtV_ptr thereV_ptr setV_ptr cellsV_agg pvEq_agg oldC_forall
set_option maxRecDepth 10000 in
set_option maxHeartbeats 4000000 in
theorem plays_good (s : ByteArray) (k np : Nat) (hnp : npg s.size = np) (h1 : 1 ≤ s.size) (h2 : s.size ≤ 16384) (hk : k + np ≤ 60) (W : World) (hg : EtLaid W) :
    Calls Tryd.prog 4 #[.string s, .int .i64 (k : Int)] W fun e w' => e = .returned (.bool true) ∧ Below W.heap.size W w' := by
  have HG := Lib.hid hg
  have HBT := Lib.hid hg.lt
  have HZ := Lib.hid (show s.size ≤ 20000 by omega)
  have hp : pgs (s.size : Int) = (np : Int) := by rw [pgs_nat h1 h2, hnp]
  have hn1 : 1 ≤ np := by rw [← hnp]; exact npg_pos h1
  obtain ⟨l, hl⟩ : ∃ l, s.data.toList = l := ⟨_, rfl⟩
  obtain ⟨D1, hD1⟩ : ∃ D1, put7 (DskV.fresh 60) (k : Int) l np = D1 := ⟨_, rfl⟩
  have HSN : Hid (∀ j : Nat, j < 60 → D1.seen (j : Int) = if k ≤ j ∧ j < k + np then sec l (j - k) else zpg) := fun j hj => by
    rw [← hD1, seen_put7 (up_fresh 60) _ _ _ (by omega) (by show (j : Int) < 60; omega)]
    by_cases h : k ≤ j ∧ j < k + np
    · rw [if_pos h, if_pos (by omega)]
      congr 1
      omega
    · rw [if_neg h, if_neg (by omega), Up.seen (up_fresh 60) (by omega) (by show (j : Int) < 60; omega)]
      rfl
  have HWY : Hid (∀ j : Nat, j < 60 → D1.why (j : Int) = 0) := fun j hj => by
    rw [← hD1]
    exact Up.why (put7_up (up_fresh 60) _ _ _) (by omega) (by show (j : Int) < 60; omega)
  have HP := Lib.hid hp
  have H1 := Lib.hid h1
  have H2 := Lib.hid h2
  have HN1 := Lib.hid hn1
  have HK := Lib.hid hk
  have HNP := Lib.hid hnp
  have HL := Lib.hid hl
  have HD1 := Lib.hid hD1
  have HK0 := Lib.hid (show 0 ≤ (k : Int) by omega)
  have HK1 := Lib.hid (show (k : Int) + (np : Int) ≤ 60 by omega)
  have HK2 := Lib.hid (show 0 + np ≤ 1000 by omega)
  have hA1 : ¬ (s.size : Int) < 1 := by omega
  have hA2 : ¬ (16384 : Int) < (s.size : Int) := by omega
  have hA3 : ¬ (20000 : Int) < (s.size : Int) := by omega
  have hA4 : ¬ (k : Int) < 0 := by omega
  have hA5 : ¬ (60 : Int) < (np : Int) := by omega
  have hA6 : ¬ 60 - (np : Int) < (k : Int) := by omega
  have hw : IntKind.i64.wrap (60 - (np : Int)) = 60 - (np : Int) := IntWalk.i64_in _ (by omega)
  clear hg h1 h2 hk hnp hp hn1 hl hD1
  go_enter Tryd.func4, Tryd.ntmps4
  go_wp2_with fail
  refine (awake7 _).mono ?_
  rintro e w1 ⟨rfl, hb1⟩
  have HB1 := Lib.hid hb1
  have HG1 := Lib.hid (HG.out.below HBT.out hb1)
  clear hb1
  go_wp2_with fail
  refine (ses_new (W := W) (B := W.heap.size) 60 (by decide) (by decide) HB1.out (Nat.le_refl _) HG1.out).mono ?_
  rintro e w2 ⟨b, F2, rfl, hs2, _, _⟩
  rw [show errV 0 = .nilIface from rfl]
  have HS2 := Lib.hid hs2
  clear hs2
  go_wp2_with fail
  refine (ses_put HS2.out HBT.out (up_fresh 60) (k : Int) s H1.out H2.out HK0.out (by rw [HNP.out]; exact HK1.out) (by rw [HNP.out]; exact HK2.out)).mono ?_
  rintro e w3 ⟨rfl, F3, hs3, _⟩
  rw [HNP.out, HL.out, HD1.out] at hs3
  rw [HL.out]
  have hx3 := hs3.box (.cells #[.int .i64 (k : Int), .int .i64 (s.size : Int), .int .u32 (adl l)] 32)
  have r4 := rfAt_new w3 (k : Int) (s.size : Int) (adl l)
  obtain ⟨w4, hw4⟩ : ∃ w4, w3.alloc (.cells #[.int .i64 (k : Int), .int .i64 (s.size : Int), .int .u32 (adl l)] 32) = w4 := ⟨_, rfl⟩
  rw [hw4] at hx3 r4
  obtain ⟨N, hN⟩ : ∃ N, w3.heap.size = N := ⟨_, rfl⟩
  rw [hN] at hx3 r4
  have HS4 := Lib.hid hx3.1
  have HR4 := Lib.hid r4
  clear hs3 hx3 r4 HS2
  go_wp2_with fail
  refine (rpages_any s HZ.out _).mono ?_
  rintro e w5 ⟨v, rfl, ho5, hb5⟩
  rw [HNP.out, HL.out] at ho5
  obtain ⟨g, cap, hv⟩ := owns_cons7 ho5 (by have := HN1.out; omega)
  subst hv
  have HS5 := Lib.hid (HS4.out.keep hb5)
  have HR5 := Lib.hid (HR4.out.below hb5)
  have HO5 := Lib.hid ho5
  clear hb5 HS4 HR4 ho5 hw4 hN
  go_wp2
  go_loopg [10] 60 (fun gh i wx => ∃ (j : Nat), i = .int .i64 (j : Int) ∧ j + gh = 60 ∧ Hid (Below w5.heap.size w5 wx))
  case atStart => exact ⟨0, rfl, by omega, Below.refl _ _⟩
  case round =>
    obtain ⟨j, rfl, hj, HI⟩ := hrel
    by_cases hlt : j < 60
    · have hlt' : (j : Int) < 60 := by omega
      have HSJ := Lib.hid (HSN.out j hlt)
      have HWJ := Lib.hid (HWY.out j hlt)
      have hw1 : IntKind.i64.wrap ((j : Int) + 1) = (j : Int) + 1 := IntWalk.i64_in _ (by omega)
      have HSR := Lib.hid (HS5.out.keep HI.out)
      obtain ⟨en, hen⟩ : ∃ en, k + np = en := ⟨_, rfl⟩
      have hw2 : IntKind.i64.wrap ((k : Int) + (np : Int)) = (en : Int) := by
        rw [show (k : Int) + (np : Int) = (en : Int) by omega]
        exact IntWalk.i64_in _ (by have := HK.out; omega)
      by_cases hin : k ≤ j ∧ j < k + np
      · obtain ⟨m, hm⟩ : ∃ m, j - k = m := ⟨_, rfl⟩
        rw [if_pos hin, hm] at HSJ
        have hi1 : (k : Int) ≤ (j : Int) := by omega
        have hi2 : (j : Int) < (en : Int) := by omega
        have hw3 : IntKind.i64.wrap ((j : Int) - (k : Int)) = (m : Int) := by
          rw [show (j : Int) - (k : Int) = (m : Int) by omega]
          exact IntWalk.i64_in _ (by omega)
        have hmn : (m : Int) < (np : Int) := by omega
        have hmn2 : m < np := by omega
        have hro := ownP_at HO5.out hmn2
        have hlg := (owns_lt HO5.out).1
        have hro2 := rangeAt_below hro HI.out hlg
        have hro3 := rangeAt_below hro2 ((Below.refl wr.heap.size wr).alloc (Nat.le_refl _) (.cells zpc 39)) (Nat.lt_of_lt_of_le hlg HI.out.size)
        have hl64 : (sec l m).length = 64 := sec_len _ _
        have q0 := isPg hro3 hl64
        have q00 := pgAt_eq hro3 hl64
        have q1 := isPv_agg hl64
        have q2 := there_zp wr 39
        have q3 := set_zp (w := wr) (N := wr.heap.size) rfl (t := 39) hl64
        clear hro hro2 hro3 hlg hin hm hen
        obtain ⟨P, hP⟩ : ∃ P, sec l m = P := ⟨_, rfl⟩
        rw [hP] at HSJ hl64 q00 q1 q3
        clear hP
        have pA := range_cells wr wr.heap.size rfl (cellsB P) 39
        have hbA : Below wr.heap.size wr (wr.alloc (.cells (cellsB P).toArray 39)) := (Below.refl _ _).alloc (Nat.le_refl _) _
        obtain ⟨wa, hwa⟩ : ∃ wa, wr.alloc (.cells (cellsB P).toArray 39) = wa := ⟨_, rfl⟩
        obtain ⟨NA, hNA⟩ : ∃ NA, wr.heap.size = NA := ⟨_, rfl⟩
        have hlA : NA < wa.heap.size := by rw [← hwa, ← hNA]; simp
        rw [hwa] at pA hbA q3
        rw [hNA] at pA q2 q3
        have HSA := Lib.hid (HSR.out.keep hbA)
        have HBA := Lib.hid (HI.out.trans (hbA.mono HI.out.size))
        have HPA := Lib.hid pA
        have HLA := Lib.hid hlA
        clear hbA pA hlA HSR
        go_wp2_with fail
        refine (ses_read HSA.out _).mono ?_
        rintro e wb ⟨rfl, hsb, hbb⟩
        rw [HSJ.out, HWJ.out, show errV 0 = .nilIface from rfl]
        have HBB := Lib.hid (HBA.out.trans (hbb.mono HBA.out.size))
        have pB := rangeAt_below HPA.out hbb HLA.out
        have hlB := Nat.lt_of_lt_of_le HLA.out hbb.size
        have hbC : Below wb.heap.size wb (wb.alloc (.cells (cellsB P).toArray 40)) := (Below.refl _ _).alloc (Nat.le_refl _) _
        have pC := rangeAt_below pB hbC hlB
        have pD := range_cells wb wb.heap.size rfl (cellsB P) 40
        have s2 := there_zp wb 40
        have s3 := set_zp (w := wb) (N := wb.heap.size) rfl (t := 40) hl64
        obtain ⟨wc, hwc⟩ : ∃ wc, wb.alloc (.cells (cellsB P).toArray 40) = wc := ⟨_, rfl⟩
        rw [hwc] at hbC pC pD s3
        have HBC := Lib.hid (HBB.out.trans (hbC.mono HBB.out.size))
        have t1 := isPg pC hl64
        have t2 := pgAt_eq pC hl64
        have t3 := isPg pD hl64
        have t4 := pgAt_eq pD hl64
        clear hsb hbb pB hlB hbC pC pD HSA HBA HPA HLA HBB hwa hNA q0 q00 q2 q3
        go_wp2_with fail
        refine (codeZ _).mono ?_
        rintro e w9 ⟨rfl, rfl⟩
        clear hwc s2 s3
        go_wp2
        go_roundg (gk - 1)
        case measure => omega
        case rel => exact ⟨j + 1, by simp, by omega, HBC.out⟩
      · rw [if_neg hin] at HSJ
        obtain ⟨P, hP⟩ : ∃ P, zpg = P := ⟨_, rfl⟩
        have hl64 : P.length = 64 := by rw [← hP]; exact zpg_len
        rw [hP] at HSJ
        have q3 : wr.alloc (.cells zpc 39) = wr.alloc (.cells (cellsB P).toArray 39) := by rw [← hP]; rfl
        have q1 := isPv_agg hl64
        clear hP
        by_cases hi1 : (k : Int) ≤ (j : Int)
        · have hi2 : ¬ (j : Int) < (en : Int) := by omega
          clear hin hen
          have pA := range_cells wr wr.heap.size rfl (cellsB P) 39
          have hbA : Below wr.heap.size wr (wr.alloc (.cells (cellsB P).toArray 39)) := (Below.refl _ _).alloc (Nat.le_refl _) _
          obtain ⟨wa, hwa⟩ : ∃ wa, wr.alloc (.cells (cellsB P).toArray 39) = wa := ⟨_, rfl⟩
          obtain ⟨NA, hNA⟩ : ∃ NA, wr.heap.size = NA := ⟨_, rfl⟩
          have hlA : NA < wa.heap.size := by rw [← hwa, ← hNA]; simp
          rw [hwa] at pA hbA q3
          rw [hNA] at pA
          have HSA := Lib.hid (HSR.out.keep hbA)
          have HBA := Lib.hid (HI.out.trans (hbA.mono HI.out.size))
          have HPA := Lib.hid pA
          have HLA := Lib.hid hlA
          clear hbA pA hlA HSR
          go_wp2_with fail
          refine (ses_read HSA.out _).mono ?_
          rintro e wb ⟨rfl, hsb, hbb⟩
          rw [HSJ.out, HWJ.out, show errV 0 = .nilIface from rfl]
          have HBB := Lib.hid (HBA.out.trans (hbb.mono HBA.out.size))
          have pB := rangeAt_below HPA.out hbb HLA.out
          have hlB := Nat.lt_of_lt_of_le HLA.out hbb.size
          have hbC : Below wb.heap.size wb (wb.alloc (.cells (cellsB P).toArray 40)) := (Below.refl _ _).alloc (Nat.le_refl _) _
          have pC := rangeAt_below pB hbC hlB
          have pD := range_cells wb wb.heap.size rfl (cellsB P) 40
          have s2 := there_zp wb 40
          have s3 := set_zp (w := wb) (N := wb.heap.size) rfl (t := 40) hl64
          obtain ⟨wc, hwc⟩ : ∃ wc, wb.alloc (.cells (cellsB P).toArray 40) = wc := ⟨_, rfl⟩
          rw [hwc] at hbC pC pD s3
          have HBC := Lib.hid (HBB.out.trans (hbC.mono HBB.out.size))
          have t1 := isPg pC hl64
          have t2 := pgAt_eq pC hl64
          have t3 := isPg pD hl64
          have t4 := pgAt_eq pD hl64
          clear hsb hbb pB hlB hbC pC pD HSA HBA HPA HLA HBB hwa hNA q3
          go_wp2_with fail
          refine (codeZ _).mono ?_
          rintro e w9 ⟨rfl, rfl⟩
          clear hwc s2 s3
          go_wp2
          go_roundg (gk - 1)
          case measure => omega
          case rel => exact ⟨j + 1, by simp, by omega, HBC.out⟩
        · clear hin hen
          have pA := range_cells wr wr.heap.size rfl (cellsB P) 39
          have hbA : Below wr.heap.size wr (wr.alloc (.cells (cellsB P).toArray 39)) := (Below.refl _ _).alloc (Nat.le_refl _) _
          obtain ⟨wa, hwa⟩ : ∃ wa, wr.alloc (.cells (cellsB P).toArray 39) = wa := ⟨_, rfl⟩
          obtain ⟨NA, hNA⟩ : ∃ NA, wr.heap.size = NA := ⟨_, rfl⟩
          have hlA : NA < wa.heap.size := by rw [← hwa, ← hNA]; simp
          rw [hwa] at pA hbA q3
          rw [hNA] at pA
          have HSA := Lib.hid (HSR.out.keep hbA)
          have HBA := Lib.hid (HI.out.trans (hbA.mono HI.out.size))
          have HPA := Lib.hid pA
          have HLA := Lib.hid hlA
          clear hbA pA hlA HSR
          go_wp2_with fail
          refine (ses_read HSA.out _).mono ?_
          rintro e wb ⟨rfl, hsb, hbb⟩
          rw [HSJ.out, HWJ.out, show errV 0 = .nilIface from rfl]
          have HBB := Lib.hid (HBA.out.trans (hbb.mono HBA.out.size))
          have pB := rangeAt_below HPA.out hbb HLA.out
          have hlB := Nat.lt_of_lt_of_le HLA.out hbb.size
          have hbC : Below wb.heap.size wb (wb.alloc (.cells (cellsB P).toArray 40)) := (Below.refl _ _).alloc (Nat.le_refl _) _
          have pC := rangeAt_below pB hbC hlB
          have pD := range_cells wb wb.heap.size rfl (cellsB P) 40
          have s2 := there_zp wb 40
          have s3 := set_zp (w := wb) (N := wb.heap.size) rfl (t := 40) hl64
          obtain ⟨wc, hwc⟩ : ∃ wc, wb.alloc (.cells (cellsB P).toArray 40) = wc := ⟨_, rfl⟩
          rw [hwc] at hbC pC pD s3
          have HBC := Lib.hid (HBB.out.trans (hbC.mono HBB.out.size))
          have t1 := isPg pC hl64
          have t2 := pgAt_eq pC hl64
          have t3 := isPg pD hl64
          have t4 := pgAt_eq pD hl64
          clear hsb hbb pB hlB hbC pC pD HSA HBA HPA HLA HBB hwa hNA q3
          go_wp2_with fail
          refine (codeZ _).mono ?_
          rintro e w9 ⟨rfl, rfl⟩
          clear hwc s2 s3
          go_wp2
          go_roundg (gk - 1)
          case measure => omega
          case rel => exact ⟨j + 1, by simp, by omega, HBC.out⟩
    · have hlt' : ¬ (j : Int) < 60 := by omega
      have HSX := Lib.hid (HS5.out.keep HI.out)
      have rx := HR5.out.below HI.out
      obtain ⟨i1, i2⟩ := rx.is
      have HC0 : Hid (∀ w0 w', OldC w0 w' → Calls Tryd.prog 12 #[.nilIface] w' fun e w'' => e = .returned (.int .i64 0) ∧ OldC w0 w'') := fun w0 w' hw' => by
        refine (codeZ w').mono ?_
        rintro e w'' ⟨rfl, rfl⟩
        exact ⟨rfl, hw'⟩
      have HCS : Hid (∀ w0 w', OldC w0 w' → Calls Tryd.prog 18 #[.string s] w' fun e w'' => e = .returned (.int .u32 (adl l)) ∧ OldC w0 w'') := fun w0 w' hw' => by
        refine (rsum_any s w' HZ.out).mono ?_
        rintro e w'' ⟨rfl, rfl⟩
        exact ⟨by rw [HL.out], hw'⟩
      have HCP : Hid (∀ w0 w', OldC w0 w' → Calls Tryd.prog 9 #[.int .i64 (s.size : Int)] w' fun e w'' => e = .returned (.int .i64 (np : Int)) ∧ OldC w0 w'') := fun w0 w' hw' => by
        refine (pages_any _ w').mono ?_
        rintro e w'' ⟨rfl, rfl⟩
        exact ⟨by rw [HP.out], hw'⟩
      clear rx
      go_wp2_with fail
      refine wp_region_old (by kernel_rfl) (by kernel_rfl) ?_
      repeat (go_big_quiet_step ((first | (intro hw; with_reducible exact HC0.out _ _ hw) | (intro hw; with_reducible exact HCS.out _ _ hw) | (intro hw; with_reducible exact HCP.out _ _ hw))))
      refine wpQuiet_nil ?_
      intro w9 hw9
      have HE := Lib.hid (HSX.out.keep hw9)
      clear hw9 i1 i2
      go_wp2
      go_ret
      exact ⟨by simp, HE.out.below⟩
theorem plays_any (s : ByteArray) (k : Int) (W : World) (hg : EtLaid W) :
    Calls Tryd.prog 4 #[.string s, .int .i64 k] W fun e w' => e = .returned (.bool true) ∧ Below W.heap.size W w' := by
  by_cases h0 : (20000 : Int) < (s.size : Int)
  · exact plays_long s k h0 W
  · by_cases h1 : 1 ≤ s.size ∧ s.size ≤ 16384
    · obtain ⟨np, hnp⟩ : ∃ np, npg s.size = np := ⟨_, rfl⟩
      by_cases h2 : 0 ≤ k ∧ k + (np : Int) ≤ 60
      · obtain ⟨m, rfl⟩ : ∃ m : Nat, k = (m : Int) := ⟨k.toNat, by omega⟩
        exact plays_good s m np hnp h1.1 h1.2 (by omega) W hg
      · exact plays_arg s k np hnp h1.1 h1.2 (by omega) W hg
    · exact plays_size s k (by omega) h0 W hg
end Go.Proofs.YtpimclhdimcioaaDoor
