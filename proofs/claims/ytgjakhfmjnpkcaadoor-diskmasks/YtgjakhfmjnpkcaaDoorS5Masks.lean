/-
  DiskMasks walked: the law returns true. Condition: errorType holds error's type.
-/
import Derived.Test.YtgjakhfmjnpkcaaDoorS5Firm
namespace Go.Proofs.YtgjakhfmjnpkcaaDoor
open Go.RowKit Go.Maps

/-- Two disks have no block in common. -/
def Apart (F G : Nat → Prop) : Prop := ∀ k, F k → ¬ G k
theorem Apart.symm {F G : Nat → Prop} (h : Apart F G) : Apart G F := fun k hg hf => h k hf hg
/-- A call of one disk leaves another alone. -/
theorem Ses.other {W w w' : World} {B : Nat} {F F' G : Nat → Prop} {b : Nat} {D : DskV} {bo : Nat} {Do : DskV} (h : Ses W B G b D w) (ho : Ses W B F bo Do w) (hB : 0 < B) (hd : Did F F' w w') (ha : Apart F G) : Ses W B G b D w' ∧ Apart F' G := by
  have hs : B ≤ w.heap.size := Nat.le_trans h.base h.below.size
  have hb := hd.fr.below hs ho.up
  refine ⟨⟨h.dsk.fr hd.fr (fun k hg hf => ha k hf hg), h.up, h.below.trans hb, h.base, h.et.below hB hb⟩, fun k hk hg => ?_⟩
  rcases hd.new k hk with h1 | h1
  · exact ha k h1 hg
  · have := h.dsk.lt k hg
    omega
/-- Three disks. -/
structure Tri (W : World) (A1 A2 A3 : Nat → Prop) (b1 b2 b3 : Nat) (D1 D2 D3 : DskV) (w : World) : Prop where
  one : Ses W W.heap.size A1 b1 D1 w
  two : Ses W W.heap.size A2 b2 D2 w
  three : Ses W W.heap.size A3 b3 D3 w
  p12 : Apart A1 A2
  p13 : Apart A1 A3
  p23 : Apart A2 A3
section
variable {W w w' : World} {A1 A2 A3 F' : Nat → Prop} {b1 b2 b3 : Nat} {D1 D2 D3 D' : DskV}
theorem Tri.keep (h : Tri W A1 A2 A3 b1 b2 b3 D1 D2 D3 w) (hb : Below w.heap.size w w') : Tri W A1 A2 A3 b1 b2 b3 D1 D2 D3 w' := ⟨h.one.keep hb, h.two.keep hb, h.three.keep hb, h.p12, h.p13, h.p23⟩
theorem Tri.did1 (h : Tri W A1 A2 A3 b1 b2 b3 D1 D2 D3 w) (hB : 0 < W.heap.size) (hs : Ses W W.heap.size F' b1 D' w') (hd : Did A1 F' w w') : Tri W F' A2 A3 b1 b2 b3 D' D2 D3 w' :=
  ⟨hs, (h.two.other h.one hB hd h.p12).1, (h.three.other h.one hB hd h.p13).1, (h.two.other h.one hB hd h.p12).2, (h.three.other h.one hB hd h.p13).2, h.p23⟩
theorem Tri.did2 (h : Tri W A1 A2 A3 b1 b2 b3 D1 D2 D3 w) (hB : 0 < W.heap.size) (hs : Ses W W.heap.size F' b2 D' w') (hd : Did A2 F' w w') : Tri W A1 F' A3 b1 b2 b3 D1 D' D3 w' :=
  ⟨(h.one.other h.two hB hd h.p12.symm).1, hs, (h.three.other h.two hB hd h.p23).1, (h.one.other h.two hB hd h.p12.symm).2.symm, h.p13, (h.three.other h.two hB hd h.p23).2⟩
theorem Tri.did3 (h : Tri W A1 A2 A3 b1 b2 b3 D1 D2 D3 w) (hB : 0 < W.heap.size) (hs : Ses W W.heap.size F' b3 D' w') (hd : Did A3 F' w w') : Tri W A1 A2 F' b1 b2 b3 D1 D2 D' w' :=
  ⟨(h.one.other h.three hB hd h.p13.symm).1, (h.two.other h.three hB hd h.p23.symm).1, hs, h.p12, (h.one.other h.three hB hd h.p13.symm).2.symm, (h.two.other h.three hB hd h.p23.symm).2.symm⟩
end
theorem did_drew {F F' : Nat → Prop} {w w' : World} (h : Did F F' w.drew w') : Did F F' w w' := ⟨frA h.fr, h.new⟩
theorem mask_all : (0 : Int) ≤ 18446744073709551615 ∧ (18446744073709551615 : Int) ≤ 18446744073709551615 := by decide
/-- The three disks behind all calls: what is read. -/
theorem masks_read (D : DskV) (again q : Int) (hf : ∀ i, D.firm i = zpg) :
    ({ (D.crash 18446744073709551615).crash again with down := false } : DskV).read q = D.read q ∧ D.flush.read q = D.read q ∧ ({ D.crash 0 with down := false } : DskV).read q = zpg := by
  refine ⟨?_, rfl, ?_⟩
  · show lst (kept again []) q (lst (kept 18446744073709551615 D.soft) q (D.firm q)) = _
    rw [kept_all (H := D.soft) bitOn_all]
    rfl
  · show lst (kept 0 D.soft) q (D.firm q) = zpg
    rw [kept_none, hf]
    rfl

attribute [local go_sem ↓] ldw_pg stw_pg alw_pg bdw_pg0 bdw_pg1 eqw_pg new_pg qld_pg qne_pg qeq_pg
attribute [local go_sem] isPgV_ptr pgAtV_ptr thereV_ptr setV_ptr cellsV_agg pvEq_agg
set_option maxRecDepth 10000 in
set_option maxHeartbeats 1000000 in
theorem masks_true (W : World) (a0 : Option Addr) (cap0 : Nat) (L : List ActV) (hrow : RowN 67 actCells W a0 cap0 L) (hok : ∀ x ∈ L, x.ok) (m : Int) (hm : 0 ≤ m ∧ m ≤ 18446744073709551615) (hg : EtLaid W) :
    Calls Tryd.prog 6 #[.slice a0 L.length cap0, .int .u64 m] W fun e w' => e = .returned (.bool true) ∧ Below W.heap.size W w' := by
  have HG := Lib.hid hg
  have HROW := Lib.hid hrow
  have HOK := Lib.hid hok
  have HMM := Lib.hid hm
  have HBT := Lib.hid hg.lt
  obtain ⟨n, hn⟩ : ∃ n, L.length = n := ⟨_, rfl⟩
  rw [hn]
  have HN := Lib.hid hn
  clear hg hrow hok hn hm
  go_enter Tryd.func6, Tryd.ntmps6
  go_wp2_with fail
  refine (awake_true W HG.out).mono ?_
  rintro e w1 ⟨rfl, hb1⟩
  have HB1 := Lib.hid hb1
  have HG1 := Lib.hid (HG.out.below HBT.out hb1)
  clear hb1
  by_cases h80 : (80 : Int) < (n : Int)
  · go_wp2_with fail
    refine (awake_true w1 HG1.out).mono ?_
    rintro e w2 ⟨rfl, hb2⟩
    have HB2 := Lib.hid hb2
    clear hb2
    go_wp2
    go_ret
    exact ⟨rfl, HB1.out.trans (HB2.out.mono HB1.out.size)⟩
  · go_wp2_with fail
    refine (ses_new (W := W) (B := W.heap.size) 8 (by decide) (by decide) HB1.out (Nat.le_refl _) HG1.out).mono ?_
    rintro e w2 ⟨b1, A1, rfl, hs2, _, _⟩
    have HS2 := Lib.hid hs2
    clear hs2
    go_wp2_with fail
    refine (ses_new (W := W) (B := W.heap.size) 8 (by decide) (by decide) HS2.out.below (Nat.le_refl _) HS2.out.et).mono ?_
    rintro e w3 ⟨b2, A2, rfl, hs3, hb3, hn3⟩
    have HS3 : Hid (Ses W W.heap.size A1 b1 (DskV.fresh 8) w3 ∧ Ses W W.heap.size A2 b2 (DskV.fresh 8) w3 ∧ Apart A1 A2) := ⟨HS2.out.keep hb3, hs3, fun k h1 h2 => by
      have := HS2.out.dsk.lt k h1
      have := hn3 k h2
      omega⟩
    clear hs3 hb3 hn3 HS2
    go_wp2_with fail
    refine (ses_new (W := W) (B := W.heap.size) 8 (by decide) (by decide) HS3.out.1.below (Nat.le_refl _) HS3.out.1.et).mono ?_
    rintro e w4 ⟨b3, A3, rfl, hs4, hb4, hn4⟩
    have HT4 : Hid (Tri W A1 A2 A3 b1 b2 b3 (DskV.fresh 8) (DskV.fresh 8) (DskV.fresh 8) w4) := ⟨HS3.out.1.keep hb4, HS3.out.2.1.keep hb4, hs4, HS3.out.2.2, fun k h1 h2 => by
      have := HS3.out.1.dsk.lt k h1
      have := hn4 k h2
      omega, fun k h1 h2 => by
      have := HS3.out.2.1.dsk.lt k h1
      have := hn4 k h2
      omega⟩
    clear hs4 hb4 hn4 HS3
    go_wp2_with fail
    refine (code_z w4).mono ?_
    rintro e w5 ⟨rfl, rfl⟩
    go_wp2_with fail
    refine (code_z w5).mono ?_
    rintro e w4 ⟨rfl, rfl⟩
    go_wp2_with fail
    refine (code_z w4).mono ?_
    rintro e w5 ⟨rfl, rfl⟩
    have hn80 : n ≤ 80 := by omega
    clear h80
    go_wp2_with fail
    go_loopg [11] n (fun gg v11 wx => ∃ (k : Nat) (A1 A2 A3 : Nat → Prop) (D : DskV), v11 = .int .i64 (k : Int) ∧ k + gg = n ∧ Hid (Tri W A1 A2 A3 b1 b2 b3 D D D wx ∧ Plain8 D k ∧ ∀ i, D.firm i = zpg))
    case atStart => exact ⟨0, A1, A2, A3, DskV.fresh 8, rfl, by omega, HT4.out, plain_fresh, fun _ => rfl⟩
    case round =>
      clear HT4
      obtain ⟨k, A1, A2, A3, D, rfl, hk, HS⟩ := hrel
      by_cases hlt : k < n
      · have hlt' : (k : Int) < (n : Int) := by omega
        have hw1 : IntKind.i64.wrap ((k : Int) + 1) = (k : Int) + 1 := IntWalk.i64_in _ (by omega)
        obtain ⟨ba, off, x, rfl, hba, hra, hxm, htk, hdr⟩ := HROW.out.at HS.out.1.one.below (k := k) (by have := HN.out; omega)
        have hx64 := (HOK.out x hxm).2.2.1
        obtain ⟨c1, c2, c3, c4⟩ := act_at hx64 hra
        obtain ⟨q, hq8, hq⟩ := place8 x.place
        have kS : ∀ w', Below W.heap.size wr w' → w'.cell? ⟨ba, off + k * 67 + 1, none⟩ = some (.int .i64 x.place) ∧ w'.rangeAt ba (off + k * 67 + 2) (cellsB x.page) := fun w' hb => ⟨(hb.cell (p := ⟨ba, off + k * 67 + 1, none⟩) hba).trans c2, rangeAt_below c3 hb hba⟩
        have HKS := Lib.hid kS
        have p1 := Tryd.underlying37
        have p2 : (Tryd.prog.info? 37).map (·.size) = some (cellsB x.page).length := by rw [pgSize, cellsB_len, hx64]
        have HPL := Lib.hid (HS.out.2.1.wrote hq8 x.page).2
        have HKW : Hid (∀ (bb : Nat) (F : Nat → Prop) w', Ses W W.heap.size F bb D w' → Calls Tryd.prog 18 #[.pointer (some ⟨bb, 0, none⟩), .int .i64 (q : Int), .agg (cellsB x.page).toArray] w' fun e w'' => e = .returned (errV 0) ∧ ∃ F'', Ses W W.heap.size F'' bb (D.write (q : Int) x.page) w'' ∧ Did F F'' w' w'') := fun bb F w' hs => by
          have := ses_write hs HBT.out (q : Int) x.page hx64 (by have := HS.out.2.1.few; omega)
          rw [(HS.out.2.1.wrote hq8 x.page).1, HS.out.2.1.refuse hq8] at this
          exact this
        have HB4 : Hid (Below W.heap.size wr wr) := Below.refl _ _
        have HT4 := Lib.hid HS.out.1
        clear kS c1 c2 c3 c4 hra htk hdr hxm hba
        go_wp2_with fail
        go_region_held3 (fun w' => w'.cell? ⟨ba, off + k * 67 + 1, none⟩ = some (.int .i64 x.place) ∧ w'.rangeAt ba (off + k * 67 + 2) (cellsB x.page))
          (first
            | (exact HKS.out _ (by assumption))
            | (exact HKS.out _ (Below.drew HB4.out)))
          (first
            | (go_at_call 18; refine (HKW.out b1 _ wr.drew (HT4.out.one.keep (Below.refl _ _).drew)).mono ?_; rintro e w5 ⟨rfl, F5, hs5, hd5⟩; have hb5 : Below W.heap.size wr w5 := HB4.out.trans (did_below HT4.out.one hd5)))
        have HT5 := Lib.hid (HT4.out.did1 HBT.out hs5 (did_drew hd5))
        have HB5 := Lib.hid hb5
        clear hs5 hd5 hb5 HT4 HB4
        go_wp2_with fail
        go_region_held3 (fun w' => w'.cell? ⟨ba, off + k * 67 + 1, none⟩ = some (.int .i64 x.place) ∧ w'.rangeAt ba (off + k * 67 + 2) (cellsB x.page))
          (first
            | (exact HKS.out _ (by assumption))
            | (exact HKS.out _ (Below.drew HB5.out)))
          (first
            | (go_at_call 18; refine (HKW.out b2 _ w5.drew (HT5.out.two.keep (Below.refl _ _).drew)).mono ?_; rintro e w6 ⟨rfl, F6, hs6, hd6⟩; have hb6 : Below W.heap.size wr w6 := HB5.out.trans (did_below HT5.out.two hd6)))
        have HT6 := Lib.hid (HT5.out.did2 HBT.out hs6 (did_drew hd6))
        have HB6 := Lib.hid hb6
        clear hs6 hd6 hb6 HT5 HB5
        go_wp2_with fail
        go_region_held3 (fun w' => w'.cell? ⟨ba, off + k * 67 + 1, none⟩ = some (.int .i64 x.place) ∧ w'.rangeAt ba (off + k * 67 + 2) (cellsB x.page))
          (first
            | (exact HKS.out _ (by assumption))
            | (exact HKS.out _ (Below.drew HB6.out)))
          (first
            | (go_at_call 18; refine (HKW.out b3 _ w6.drew (HT6.out.three.keep (Below.refl _ _).drew)).mono ?_; rintro e w7 ⟨rfl, F7, hs7, hd7⟩; have hb7 : Below W.heap.size wr w7 := HB6.out.trans (did_below HT6.out.three hd7)))
        have HT7 := Lib.hid (HT6.out.did3 HBT.out hs7 (did_drew hd7))
        have HB7 := Lib.hid hb7
        clear hs7 hd7 hb7 HT6 HB6
        go_wp2_with fail
        go_roundg (n - (k + 1))
        case measure => omega
        case rel => exact ⟨k + 1, F5, F6, F7, D.write (q : Int) x.page, by simp, by omega, HT7.out, HPL.out, HS.out.2.2⟩
      · have hlt' : ¬ (k : Int) < (n : Int) := by omega
        go_wp2_with fail
        refine (ses_crash HS.out.1.one HBT.out 18446744073709551615 mask_all.1 mask_all.2).mono ?_
        rintro e w4 ⟨rfl, F4, hs4, hd4⟩
        have HT4 := Lib.hid (HS.out.1.did1 HBT.out hs4 hd4)
        clear hs4 hd4
        go_wp2_with fail
        refine (ses_crash HT4.out.one HBT.out m HMM.out.1 HMM.out.2).mono ?_
        rintro e w5 ⟨rfl, F5, hs5, hd5⟩
        have HT5 := Lib.hid (HT4.out.did1 HBT.out hs5 hd5)
        clear hs5 hd5 HT4
        go_wp2_with fail
        refine (ses_flush HT5.out.two HBT.out).mono ?_
        rintro e w6 ⟨rfl, F6, hs6, hd6⟩
        rw [HS.out.2.1.down, show errV (if false = true then 11 else 0) = errV 0 from rfl]
        rw [HS.out.2.1.flush.1] at hs6
        have HT6 := Lib.hid (HT5.out.did2 HBT.out hs6 hd6)
        clear hs6 hd6 HT5
        go_wp2_with fail
        refine (ses_crash HT6.out.three HBT.out 0 (by decide) (by decide)).mono ?_
        rintro e w7 ⟨rfl, F7, hs7, hd7⟩
        have HT7 := Lib.hid (HT6.out.did3 HBT.out hs7 hd7)
        clear hs7 hd7 HT6
        go_wp2_with fail
        refine (ses_up HT7.out.one HBT.out).mono ?_
        rintro e w8 ⟨rfl, hs8, hd8⟩
        have HT8 := Lib.hid (HT7.out.did1 HBT.out hs8 hd8)
        clear hs8 hd8 HT7
        go_wp2_with fail
        refine (ses_up HT8.out.three HBT.out).mono ?_
        rintro e w9 ⟨rfl, hs9, hd9⟩
        have HT9 := Lib.hid (HT8.out.did3 HBT.out hs9 hd9)
        clear hs9 hd9 HT8
        have HMR : Hid (∀ q : Int, _) := fun q => masks_read D m q HS.out.2.2
        have HP1 : Hid (Plain8 { (D.crash 18446744073709551615).crash m with down := false } 0) := ⟨HS.out.2.1.size, rfl, HS.out.2.1.bud, Nat.le_refl _⟩
        have HP2 : Hid (Plain8 D.flush 0) := ⟨HS.out.2.1.size, HS.out.2.1.down, HS.out.2.1.bud, Nat.le_refl _⟩
        have HP3 : Hid (Plain8 { D.crash 0 with down := false } 0) := ⟨HS.out.2.1.size, rfl, HS.out.2.1.bud, Nat.le_refl _⟩
        generalize ({ (D.crash 18446744073709551615).crash m with down := false } : DskV) = E1 at *
        generalize D.flush = E2 at *
        generalize ({ D.crash 0 with down := false } : DskV) = E3 at *
        have HRR : Hid (∀ q : Int, E1.read q = D.read q ∧ E2.read q = D.read q ∧ E3.read q = zpg) := HMR
        clear HMR hk hlt hlt'
        go_wp2_with fail
        go_loopg [12, 13, 14, 15, 16, 17, 18] 8 (fun g2 v12 _ _ _ _ _ _ wx => ∃ j : Nat, v12 = .int .i64 (j : Int) ∧ j + g2 = 8 ∧ Hid (Tri W F5 F6 F7 b1 b2 b3 E1 E2 E3 wx))
        case atStart => exact ⟨0, rfl, rfl, HT9⟩
        case round =>
          clear HT9
          obtain ⟨j, rfl, hj, HJ⟩ := hrel
          by_cases hj8 : j < 8
          · have hj' : (j : Int) < 8 := by omega
            have hj0 : (0 : Int) ≤ (j : Int) := by omega
            have hwj : IntKind.i64.wrap ((j : Int) + 1) = (j : Int) + 1 := IntWalk.i64_in _ (by omega)
            obtain ⟨pj, hpj⟩ : ∃ pj, pj = D.read (j : Int) := ⟨_, rfl⟩
            have e1 : E1.seen (j : Int) = pj := by rw [HP1.out.seen hj8, (HRR.out _).1, hpj]
            have e2 : E2.seen (j : Int) = pj := by rw [HP2.out.seen hj8, (HRR.out _).2.1, hpj]
            have e3 : E3.seen (j : Int) = zpg := by rw [HP3.out.seen hj8, (HRR.out _).2.2]
            have hp64 : pj.length = 64 := by rw [hpj, ← (HRR.out _).1]; exact HJ.out.one.dsk.ok.read _
            have E1s := Lib.hid e1
            have E2s := Lib.hid e2
            have E3s := Lib.hid e3
            have q1 := isPv_agg hp64
            have q1z := isPv_agg zpg_len
            clear e1 e2 e3 hpj
            go_wp2_with fail
            refine (ses_read HJ.out.one (j : Int)).mono ?_
            rintro e w20 ⟨rfl, _, hbw20⟩
            rw [HP1.out.why hj8, E1s.out]
            have q2 := there_zp w20 37
            have q3 := set_zp (w := w20) (N := w20.heap.size) rfl (t := 37) hp64
            have hbx : Below w20.heap.size w20 (w20.alloc (.cells (cellsB pj).toArray 37)) := (Below.refl _ _).alloc (Nat.le_refl _) _
            have HTw21 := Lib.hid ((HJ.out.keep hbw20).keep hbx)
            have HRN1 := Lib.hid (range_cells w20 w20.heap.size rfl (cellsB pj) 37)
            have HLN1 : Hid (w20.heap.size < (w20.alloc (.cells (cellsB pj).toArray 37)).heap.size) := by show w20.heap.size < _; simp
            clear hbw20 hbx
            go_wp2_with fail
            clear q2 q3
            generalize w20.alloc (.cells (cellsB pj).toArray 37) = w21 at *
            generalize w20.heap.size = N1 at *
            refine (ses_read HTw21.out.two (j : Int)).mono ?_
            rintro e w22 ⟨rfl, _, hbw22⟩
            rw [HP2.out.why hj8, E2s.out]
            have q2 := there_zp w22 37
            have q3 := set_zp (w := w22) (N := w22.heap.size) rfl (t := 37) hp64
            have hbx : Below w22.heap.size w22 (w22.alloc (.cells (cellsB pj).toArray 37)) := (Below.refl _ _).alloc (Nat.le_refl _) _
            have HTw23 := Lib.hid ((HTw21.out.keep hbw22).keep hbx)
            have HRN2 := Lib.hid (range_cells w22 w22.heap.size rfl (cellsB pj) 37)
            have HLN2 : Hid (w22.heap.size < (w22.alloc (.cells (cellsB pj).toArray 37)).heap.size) := by show w22.heap.size < _; simp
            replace HRN1 := Lib.hid (rangeAt_below (rangeAt_below HRN1.out hbw22 HLN1.out) hbx (Nat.lt_of_lt_of_le HLN1.out hbw22.size))
            replace HLN1 : Hid (N1 < (w22.alloc (.cells (cellsB pj).toArray 37)).heap.size) := by have := HLN1.out; have := hbw22.size; show N1 < _; simp; omega
            clear hbw22 hbx
            go_wp2_with fail
            clear q2 q3
            generalize w22.alloc (.cells (cellsB pj).toArray 37) = w23 at *
            generalize w22.heap.size = N2 at *
            refine (ses_read HTw23.out.three (j : Int)).mono ?_
            rintro e w24 ⟨rfl, _, hbw24⟩
            rw [HP3.out.why hj8, E3s.out]
            have q2 := there_zp w24 37
            have q3 := set_zp (w := w24) (N := w24.heap.size) rfl (t := 37) zpg_len
            have hbx : Below w24.heap.size w24 (w24.alloc (.cells (cellsB zpg).toArray 37)) := (Below.refl _ _).alloc (Nat.le_refl _) _
            have HTw25 := Lib.hid ((HTw23.out.keep hbw24).keep hbx)
            have HRN3 := Lib.hid (range_cells w24 w24.heap.size rfl (cellsB zpg) 37)
            have HLN3 : Hid (w24.heap.size < (w24.alloc (.cells (cellsB zpg).toArray 37)).heap.size) := by show w24.heap.size < _; simp
            replace HRN1 := Lib.hid (rangeAt_below (rangeAt_below HRN1.out hbw24 HLN1.out) hbx (Nat.lt_of_lt_of_le HLN1.out hbw24.size))
            replace HLN1 : Hid (N1 < (w24.alloc (.cells (cellsB zpg).toArray 37)).heap.size) := by have := HLN1.out; have := hbw24.size; show N1 < _; simp; omega
            replace HRN2 := Lib.hid (rangeAt_below (rangeAt_below HRN2.out hbw24 HLN2.out) hbx (Nat.lt_of_lt_of_le HLN2.out hbw24.size))
            replace HLN2 : Hid (N2 < (w24.alloc (.cells (cellsB zpg).toArray 37)).heap.size) := by have := HLN2.out; have := hbw24.size; show N2 < _; simp; omega
            clear hbw24 hbx
            generalize hW6 : w24.alloc (.cells (cellsB zpg).toArray 37) = w25 at *
            have y1 := isPg HRN1.out hp64
            have y2 := pgAt_eq HRN1.out hp64
            have y3 := isPg HRN2.out hp64
            have y4 := pgAt_eq HRN2.out hp64
            have y5 := isPg HRN3.out zpg_len
            have y6 := pgAt_eq HRN3.out zpg_len
            go_wp2_with fail
            go_roundg (gk - 1)
            case measure => omega
            case rel => exact ⟨j + 1, by simp, by omega, HTw25⟩
          · have hj' : ¬ (j : Int) < 8 := by omega
            have h1 : E1.soft.length = 0 := Nat.le_zero.1 HP1.out.few
            have h2 : E2.soft.length = 0 := Nat.le_zero.1 HP2.out.few
            have h3 : E3.soft.length = 0 := Nat.le_zero.1 HP3.out.few
            have s1 := soft_any HJ.out.one.dsk
            have s2 := soft_any HJ.out.two.dsk
            have s3 := soft_any HJ.out.three.dsk
            rw [h1] at s1
            rw [h2] at s2
            rw [h3] at s3
            have S1 := Lib.hid s1
            have S2 := Lib.hid s2
            have S3 := Lib.hid s3
            clear s1 s2 s3 h1 h2 h3
            go_wp2_with fail
            refine S1.out.mono ?_
            rintro e w4 ⟨rfl, rfl⟩
            go_wp2_with fail
            refine S2.out.mono ?_
            rintro e w4 ⟨rfl, rfl⟩
            go_wp2_with fail
            refine S3.out.mono ?_
            rintro e w4 ⟨rfl, rfl⟩
            go_wp2
            go_ret
            exact ⟨rfl, HJ.out.one.below⟩
end Go.Proofs.YtgjakhfmjnpkcaaDoor
