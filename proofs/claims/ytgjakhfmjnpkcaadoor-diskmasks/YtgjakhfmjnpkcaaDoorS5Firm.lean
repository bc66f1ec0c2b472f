/-
  DiskFirm walked: the law returns true. Condition: errorType holds error's type.
-/
import Derived.Test.YtgjakhfmjnpkcaaDoorS5Last
namespace Go.Proofs.YtgjakhfmjnpkcaaDoor
open Go.RowKit Go.Maps

/-- The pages are what a crash with the mask m leaves. -/
def Kept8 (D : DskV) (m : Int) (ps : List PgL) : Prop := ∀ q : Nat, q < 8 → ps[q]? = some (lst (kept m D.soft) (q : Int) (D.firm (q : Int)))
theorem Kept8.start {D : DskV} {ps : List PgL} (h : Shows8 D ps) (m : Int) : Kept8 D.flush m ps := fun q hq => h q hq
theorem Kept8.on {D : DskV} {m : Int} {ps : List PgL} (h : Kept8 D m ps) (hl : ps.length = 8) {k : Nat} (hk : D.soft.length = k) (hk64 : k < 64) {q : Nat} (hq : q < 8) (p : PgL) (hb : bitOn m (k : Int) = true) : Kept8 (D.write (q : Int) p) m (ps.set q p) := fun j hj => by
  show _ = some (lst (kept m (D.soft ++ [((q : Int), p)])) (j : Int) (D.firm (j : Int)))
  rw [kept_snoc, hk, Nat.mod_eq_of_lt hk64, if_pos hb, lst_snoc]
  by_cases e : q = j
  · subst e
    rw [List.getElem?_set_self (by omega), if_pos rfl]
  · rw [List.getElem?_set_ne e, if_neg (by show ¬ (q : Int) = (j : Int); omega)]
    exact h j hj
theorem Kept8.off {D : DskV} {m : Int} {ps : List PgL} (h : Kept8 D m ps) {k : Nat} (hk : D.soft.length = k) (hk64 : k < 64) (q : Int) (p : PgL) (hb : bitOn m (k : Int) = false) : Kept8 (D.write q p) m ps := fun j hj => by
  show _ = some (lst (kept m (D.soft ++ [(q, p)])) (j : Int) (D.firm (j : Int)))
  rw [kept_snoc, hk, Nat.mod_eq_of_lt hk64, hb]
  exact h j hj
theorem Kept8.crash {D : DskV} {m : Int} {ps : List PgL} (h : Kept8 D m ps) : Shows8 { D.crash m with down := false } ps := fun q hq => h q hq
theorem Plain8.crash {D : DskV} {n : Nat} (h : Plain8 D n) (m : Int) : Plain8 { D.crash m with down := false } 0 := ⟨h.size, rfl, h.bud, Nat.le_refl _⟩

attribute [local go_sem ↓] ldw_pg stw_pg alw_pg bdw_pg0 bdw_pg1 eqw_pg new_pg alw_a8 qld_pg qne_pg qeq_pg
attribute [local go_sem] isPgV_ptr pgAtV_ptr thereV_ptr setV_ptr cellsV_agg pvEq_agg
set_option maxRecDepth 10000 in
set_option maxHeartbeats 1000000 in
theorem firm_true (W : World) (a0 : Option Addr) (cap0 : Nat) (L : List ActV) (hrow : RowN 67 actCells W a0 cap0 L) (hok : ∀ x ∈ L, x.ok) (a1 : Option Addr) (cap1 : Nat) (L1 : List ActV) (hrow1 : RowN 67 actCells W a1 cap1 L1) (hok1 : ∀ x ∈ L1, x.ok) (m : Int) (hm : 0 ≤ m ∧ m ≤ 18446744073709551615) (hg : EtLaid W) :
    Calls Tryd.prog 4 #[.slice a0 L.length cap0, .slice a1 L1.length cap1, .int .u64 m] W fun e w' => e = .returned (.bool true) ∧ Below W.heap.size W w' := by
  have HG := Lib.hid hg
  have HROW := Lib.hid hrow
  have HOK := Lib.hid hok
  have HROW1 := Lib.hid hrow1
  have HOK1 := Lib.hid hok1
  have HMM := Lib.hid hm
  have HBT := Lib.hid hg.lt
  obtain ⟨n, hn⟩ : ∃ n, L.length = n := ⟨_, rfl⟩
  obtain ⟨n1, hn1⟩ : ∃ n1, L1.length = n1 := ⟨_, rfl⟩
  rw [hn, hn1]
  have HN := Lib.hid hn
  have HN1 := Lib.hid hn1
  clear hg hrow hok hn hrow1 hok1 hn1 hm
  go_enter Tryd.func4, Tryd.ntmps4
  go_wp2_with fail
  refine (awake_true W HG.out).mono ?_
  rintro e w1 ⟨rfl, hb1⟩
  have HB1 := Lib.hid hb1
  have HG1 := Lib.hid (HG.out.below HBT.out hb1)
  clear hb1
  have hout : (80 : Int) < (n : Int) ∨ ((n : Int) ≤ 80 ∧ (64 : Int) < (n1 : Int)) ∨ ((n : Int) ≤ 80 ∧ (n1 : Int) ≤ 64) := by omega
  rcases hout with h80 | ⟨h80', h64⟩ | ⟨h80', h64'⟩
  · go_wp2_with fail
    refine (awake_true w1 HG1.out).mono ?_
    rintro e w2 ⟨rfl, hb2⟩
    have HB2 := Lib.hid hb2
    clear hb2
    go_wp2
    go_ret
    exact ⟨rfl, HB1.out.trans (HB2.out.mono HB1.out.size)⟩
  · have h80 : ¬ (80 : Int) < (n : Int) := by omega
    go_wp2_with fail
    refine (awake_true w1 HG1.out).mono ?_
    rintro e w2 ⟨rfl, hb2⟩
    have HB2 := Lib.hid hb2
    clear hb2
    go_wp2
    go_ret
    exact ⟨rfl, HB1.out.trans (HB2.out.mono HB1.out.size)⟩
  · have h80 : ¬ (80 : Int) < (n : Int) := by omega
    have h64 : ¬ (64 : Int) < (n1 : Int) := by omega
    go_wp2_with fail
    refine (ses_new (W := W) (B := W.heap.size) 8 (by decide) (by decide) HB1.out (Nat.le_refl _) HG1.out).mono ?_
    rintro e w2 ⟨b, F2, rfl, hs2, _, _⟩
    have hx := hs2.box (.cells z8c 52)
    have HS3 : Hid (Ses W W.heap.size F2 b (DskV.fresh 8) (w2.alloc (.cells z8c 52)) ∧ ¬ F2 w2.heap.size ∧ Arr8 (w2.alloc (.cells z8c 52)) w2.heap.size (List.replicate 8 zpg)) := ⟨hx.1, hx.2.1, Arr8.new w2⟩
    have HZ0 : Hid (W.heap.size ≤ w2.heap.size) := hs2.below.size
    clear hs2 hx
    have hn80 : n ≤ 80 := by omega
    have hn64 : n1 ≤ 64 := by omega
    clear h80 h64 h80' h64'
    go_wp2_with fail
    generalize w2.alloc (.cells z8c 52) = w3 at *
    have HZ : Hid (W.heap.size ≤ w2.heap.size) := HZ0
    clear HZ0
    generalize w2.heap.size = Z at *
    go_loopg [10] n (fun gg v10 wx => ∃ (k : Nat) (F : Nat → Prop) (D : DskV) (ps : List PgL), v10 = .int .i64 (k : Int) ∧ k + gg = n ∧ Hid (Ses W W.heap.size F b D wx ∧ ¬ F Z ∧ Arr8 wx Z ps ∧ Plain8 D k ∧ Shows8 D ps))
    case atStart => exact ⟨0, F2, DskV.fresh 8, List.replicate 8 zpg, rfl, by omega, HS3.out.1, HS3.out.2.1, HS3.out.2.2, plain_fresh, fun q hq => by rw [List.getElem?_replicate, if_pos hq]; rfl⟩
    case round =>
      clear HS3
      obtain ⟨k, F, D, ps, rfl, hk, HS⟩ := hrel
      by_cases hlt : k < n
      · have hlt' : (k : Int) < (n : Int) := by omega
        have hw1 : IntKind.i64.wrap ((k : Int) + 1) = (k : Int) + 1 := IntWalk.i64_in _ (by omega)
        obtain ⟨ba, off, x, rfl, hba, hra, hxm, htk, hdr⟩ := HROW.out.at HS.out.1.below (k := k) (by have := HN.out; omega)
        have hx64 := (HOK.out x hxm).2.2.1
        obtain ⟨c1, c2, c3, c4⟩ := act_at hx64 hra
        obtain ⟨q, hq8, hq⟩ := place8 x.place
        have kS : ∀ w', Below W.heap.size wr w' → w'.cell? ⟨ba, off + k * 67 + 1, none⟩ = some (.int .i64 x.place) ∧ w'.rangeAt ba (off + k * 67 + 2) (cellsB x.page) := fun w' hb => ⟨(hb.cell (p := ⟨ba, off + k * 67 + 1, none⟩) hba).trans c2, rangeAt_below c3 hb hba⟩
        have HKS := Lib.hid kS
        have p1 := Tryd.underlying37
        have p2 : (Tryd.prog.info? 37).map (·.size) = some (cellsB x.page).length := by rw [pgSize, cellsB_len, hx64]
        clear kS c1 c2 c3 c4 hra htk hdr hxm hba
        have HKW : Hid (∀ w', Ses W W.heap.size F b D w' → Calls Tryd.prog 18 #[.pointer (some ⟨b, 0, none⟩), .int .i64 (q : Int), .agg (cellsB x.page).toArray] w' fun e w'' => e = .returned (errV 0) ∧ ∃ F'', Ses W W.heap.size F'' b (D.write (q : Int) x.page) w'' ∧ Did F F'' w' w'') := fun w' hs => by
          have := ses_write hs HBT.out (q : Int) x.page hx64 (by have := HS.out.2.2.2.1.few; omega)
          rw [(HS.out.2.2.2.1.wrote hq8 x.page).1, HS.out.2.2.2.1.refuse hq8] at this
          exact this
        go_wp2_with fail
        go_region_held3 (fun w' => w'.cell? ⟨ba, off + k * 67 + 1, none⟩ = some (.int .i64 x.place) ∧ w'.rangeAt ba (off + k * 67 + 2) (cellsB x.page))
          (first
            | (exact HKS.out _ (by assumption))
            | (exact HKS.out _ (Below.drew (Below.refl _ _))))
          (first
            | (go_at_call 18; refine (HKW.out wr.drew (HS.out.1.keep (Below.refl _ _).drew)).mono ?_; rintro e w4 ⟨rfl, F4, hs4, hd4⟩; have hb4 : Below W.heap.size wr w4 := did_below HS.out.1 hd4)
            | (go_at_call 10; refine (ses_code hs4 0).mono ?_; rintro e w5 ⟨rfl, hs5, hb5⟩; have hb45 : Below W.heap.size wr w5 := hb4.trans (hb5.mono (Nat.le_trans HS.out.1.below.size hb4.size))))
        have hdz := hd4.block (k := Z) (Nat.lt_of_lt_of_le HS.out.2.2.1.lt (Nat.le_refl _)) HS.out.2.1
        have har5 : Arr8 w5 Z ps := (HS.out.2.2.1.block hdz.1).block (hb5.block Z hdz.2.2)
        have HR5 := Lib.hid har5
        have HF5 := Lib.hid hdz.2.1
        have HS5 := Lib.hid hs5
        have HB5 := Lib.hid hb45
        have HPL := Lib.hid (HS.out.2.2.2.1.wrote hq8 x.page).2
        clear hdz har5 hs5 hb45 hb5 hb4 hs4 hd4 HKW
        have t1 : w5.drew.there Z (q * 64) 64 := HR5.out.there hq8
        have t2 := cellsB_one x.page
        have t3 : w5.drew.there Z (q * 64) (cellsB x.page).length := by rw [cellsB_len, hx64]; exact t1
        have hq0 : (0 : Int) ≤ (q : Int) := by omega
        have hq1 : (q : Int) < 8 := by omega
        go_wp2_with fail
        go_region_held3 (fun w' => w'.cell? ⟨ba, off + k * 67 + 1, none⟩ = some (.int .i64 x.place) ∧ w'.rangeAt ba (off + k * 67 + 2) (cellsB x.page))
          (first
            | (exact HKS.out _ (Below.drew HB5.out))
            | (exact HKS.out _ (below_cells (Below.drew HB5.out) HZ.out _ _)))
          (fail)
        have HS6 : Hid (Ses W W.heap.size F4 b (D.write (q : Int) x.page) (w5.drew.setCells Z (q * 64) (cellsB x.page)) ∧ Arr8 (w5.drew.setCells Z (q * 64) (cellsB x.page)) Z (ps.set q x.page)) :=
          ⟨(HS5.out.keep (Below.refl _ _).drew).beside HZ.out HF5.out HBT.out _ _, (HR5.out.block (w' := w5.drew) rfl).set hq8 hx64⟩
        generalize w5.drew.setCells Z (q * 64) (cellsB x.page) = w6 at *
        clear t1 t2 t3 HR5 HS5 HB5 HKS p1 p2 hq0 hq1
        go_wp2_with fail
        go_roundg (n - (k + 1))
        case measure => omega
        case rel => exact ⟨k + 1, F4, D.write (q : Int) x.page, ps.set q x.page, by simp, by omega, HS6.out.1, HF5.out, HS6.out.2, HPL.out, HS.out.2.2.2.2.write HS.out.2.2.1.1 hq8 x.page⟩
      · have hlt' : ¬ (k : Int) < (n : Int) := by omega
        go_wp2_with fail
        refine (ses_flush HS.out.1 HBT.out).mono ?_
        rintro e w4 ⟨rfl, F', hs4, hd4⟩
        rw [HS.out.2.2.2.1.down]
        have hk4 := hd4.block HS.out.2.2.1.lt HS.out.2.1
        rw [HS.out.2.2.2.1.flush.1] at hs4
        have HS4 : Hid (Ses W W.heap.size F' b D.flush w4 ∧ ¬ F' Z ∧ Arr8 w4 Z ps ∧ Plain8 D.flush 0 ∧ D.flush.soft.length = 0 ∧ Kept8 D.flush m ps) := ⟨hs4, hk4.2.1, HS.out.2.2.1.block hk4.1, ⟨HS.out.2.2.2.1.size, HS.out.2.2.2.1.down, HS.out.2.2.2.1.bud, Nat.le_refl _⟩, rfl, Kept8.start HS.out.2.2.2.2 m⟩
        clear hs4 hd4 hk4
        generalize D.flush = D2 at *
        rw [show errV (if false = true then 11 else 0) = errV 0 from rfl]
        go_wp2_with fail
        refine (ses_code HS4.out.1 0).mono ?_
        rintro e w5 ⟨rfl, hs5, hb5⟩
        have HS5 : Hid (Ses W W.heap.size F' b D2 w5 ∧ ¬ F' Z ∧ Arr8 w5 Z ps ∧ Plain8 D2 0 ∧ D2.soft.length = 0 ∧ Kept8 D2 m ps) := ⟨hs5, HS4.out.2.1, HS4.out.2.2.1.block (hb5.block Z HS4.out.2.2.1.lt), HS4.out.2.2.2⟩
        clear hs5 hb5 HS4 HS hk hlt hlt'
        go_wp2_with fail
        go_loopg [11] n1 (fun gg v11 wx => ∃ (k : Nat) (F : Nat → Prop) (D : DskV) (ps : List PgL), v11 = .int .i64 (k : Int) ∧ k + gg = n1 ∧ Hid (Ses W W.heap.size F b D wx ∧ ¬ F Z ∧ Arr8 wx Z ps ∧ Plain8 D k ∧ D.soft.length = k ∧ Kept8 D m ps))
        case atStart => exact ⟨0, F', D2, ps, rfl, by omega, HS5⟩
        case round =>
          clear HS5
          obtain ⟨k, F, D, ps, rfl, hk, HS⟩ := hrel
          by_cases hlt : k < n1
          · have hlt' : (k : Int) < (n1 : Int) := by omega
            have hw1 : IntKind.i64.wrap ((k : Int) + 1) = (k : Int) + 1 := IntWalk.i64_in _ (by omega)
            obtain ⟨ba, off, x, rfl, hba, hra, hxm, htk, hdr⟩ := HROW1.out.at HS.out.1.below (k := k) (by have := HN1.out; omega)
            have hx64 := (HOK1.out x hxm).2.2.1
            obtain ⟨c1, c2, c3, c4⟩ := act_at hx64 hra
            obtain ⟨q, hq8, hq⟩ := place8 x.place
            have kS : ∀ w', Below W.heap.size wr w' → w'.cell? ⟨ba, off + k * 67 + 1, none⟩ = some (.int .i64 x.place) ∧ w'.rangeAt ba (off + k * 67 + 2) (cellsB x.page) := fun w' hb => ⟨(hb.cell (p := ⟨ba, off + k * 67 + 1, none⟩) hba).trans c2, rangeAt_below c3 hb hba⟩
            have HKS := Lib.hid kS
            have p1 := Tryd.underlying37
            have p2 : (Tryd.prog.info? 37).map (·.size) = some (cellsB x.page).length := by rw [pgSize, cellsB_len, hx64]
            clear kS c1 c2 c3 c4 hra htk hdr hxm hba
            have HKW : Hid (∀ w', Ses W W.heap.size F b D w' → Calls Tryd.prog 18 #[.pointer (some ⟨b, 0, none⟩), .int .i64 (q : Int), .agg (cellsB x.page).toArray] w' fun e w'' => e = .returned (errV 0) ∧ ∃ F'', Ses W W.heap.size F'' b (D.write (q : Int) x.page) w'' ∧ Did F F'' w' w'') := fun w' hs => by
              have := ses_write hs HBT.out (q : Int) x.page hx64 (by have := HS.out.2.2.2.1.few; omega)
              rw [(HS.out.2.2.2.1.wrote hq8 x.page).1, HS.out.2.2.2.1.refuse hq8] at this
              exact this
            go_wp2_with fail
            go_region_held3 (fun w' => w'.cell? ⟨ba, off + k * 67 + 1, none⟩ = some (.int .i64 x.place) ∧ w'.rangeAt ba (off + k * 67 + 2) (cellsB x.page))
              (first
                | (exact HKS.out _ (by assumption))
                | (exact HKS.out _ (Below.drew (Below.refl _ _))))
              (first
                | (go_at_call 18; refine (HKW.out wr.drew (HS.out.1.keep (Below.refl _ _).drew)).mono ?_; rintro e w4 ⟨rfl, F4, hs4, hd4⟩; have hb4 : Below W.heap.size wr w4 := did_below HS.out.1 hd4)
                | (go_at_call 10; refine (ses_code hs4 0).mono ?_; rintro e w5 ⟨rfl, hs5, hb5⟩; have hb45 : Below W.heap.size wr w5 := hb4.trans (hb5.mono (Nat.le_trans HS.out.1.below.size hb4.size))))
            have hdz := hd4.block (k := Z) (Nat.lt_of_lt_of_le HS.out.2.2.1.lt (Nat.le_refl _)) HS.out.2.1
            have har5 : Arr8 w5 Z ps := (HS.out.2.2.1.block hdz.1).block (hb5.block Z hdz.2.2)
            have HR5 := Lib.hid har5
            have HF5 := Lib.hid hdz.2.1
            have HS5 := Lib.hid hs5
            have HB5 := Lib.hid hb45
            have HPL := Lib.hid (HS.out.2.2.2.1.wrote hq8 x.page).2
            clear hdz har5 hs5 hb45 hb5 hb4 hs4 hd4 HKW
            have hbt := bit_test m (k : Int) HMM.out.1 HMM.out.2
            rw [Int.toNat_natCast] at hbt
            have hkn : (0 : Int) ≤ (k : Int) := by omega
            cases hbo : bitOn m (k : Int) with
            | false =>
              rw [hbo] at hbt
              have HBO := Lib.hid hbo
              clear hbo
              go_wp2_with fail
              go_roundg (n1 - (k + 1))
              case measure => omega
              case rel => exact ⟨k + 1, F4, D.write (q : Int) x.page, ps, by simp, by omega, HS5.out, HF5.out, HR5.out, HPL.out, by show (D.soft ++ [((q : Int), x.page)]).length = k + 1; rw [List.length_append, HS.out.2.2.2.2.1]; rfl, HS.out.2.2.2.2.2.off HS.out.2.2.2.2.1 (by omega) _ _ HBO.out⟩
            | true =>
              rw [hbo] at hbt
              have HBO := Lib.hid hbo
              clear hbo
              have t1 : w5.drew.there Z (q * 64) 64 := HR5.out.there hq8
              have t2 := cellsB_one x.page
              have t3 : w5.drew.there Z (q * 64) (cellsB x.page).length := by rw [cellsB_len, hx64]; exact t1
              have hq0 : (0 : Int) ≤ (q : Int) := by omega
              have hq1 : (q : Int) < 8 := by omega
              go_wp2_with fail
              go_region_held3 (fun w' => w'.cell? ⟨ba, off + k * 67 + 1, none⟩ = some (.int .i64 x.place) ∧ w'.rangeAt ba (off + k * 67 + 2) (cellsB x.page))
                (first
                  | (exact HKS.out _ (Below.drew HB5.out))
                  | (exact HKS.out _ (below_cells (Below.drew HB5.out) HZ.out _ _)))
                (fail)
              have HS6 : Hid (Ses W W.heap.size F4 b (D.write (q : Int) x.page) (w5.drew.setCells Z (q * 64) (cellsB x.page)) ∧ Arr8 (w5.drew.setCells Z (q * 64) (cellsB x.page)) Z (ps.set q x.page)) :=
                ⟨(HS5.out.keep (Below.refl _ _).drew).beside HZ.out HF5.out HBT.out _ _, (HR5.out.block (w' := w5.drew) rfl).set hq8 hx64⟩
              generalize w5.drew.setCells Z (q * 64) (cellsB x.page) = w6 at *
              clear t1 t2 t3 HR5 HS5 HB5 HKS p1 p2 hq0 hq1
              go_wp2_with fail
              go_roundg (n1 - (k + 1))
              case measure => omega
              case rel => exact ⟨k + 1, F4, D.write (q : Int) x.page, ps.set q x.page, by simp, by omega, HS6.out.1, HF5.out, HS6.out.2, HPL.out, by show (D.soft ++ [((q : Int), x.page)]).length = k + 1; rw [List.length_append, HS.out.2.2.2.2.1]; rfl, HS.out.2.2.2.2.2.on HS.out.2.2.1.1 HS.out.2.2.2.2.1 (by omega) hq8 x.page HBO.out⟩
          · have hlt' : ¬ (k : Int) < (n1 : Int) := by omega
            go_wp2_with fail
            refine (ses_crash HS.out.1 HBT.out m HMM.out.1 HMM.out.2).mono ?_
            rintro e w4 ⟨rfl, F3, hs4, hd4⟩
            have hk4 := hd4.block HS.out.2.2.1.lt HS.out.2.1
            have HS4 : Hid (Ses W W.heap.size F3 b (D.crash m) w4 ∧ ¬ F3 Z ∧ Arr8 w4 Z ps) := ⟨hs4, hk4.2.1, HS.out.2.2.1.block hk4.1⟩
            clear hs4 hd4 hk4
            go_wp2_with fail
            refine (ses_up HS4.out.1 HBT.out).mono ?_
            rintro e w5 ⟨rfl, hs5, hd5⟩
            have hk5 := hd5.block HS4.out.2.2.lt HS4.out.2.1
            have HS5 : Hid (Ses W W.heap.size F3 b { D.crash m with down := false } w5 ∧ Arr8 w5 Z ps) := ⟨hs5, HS4.out.2.2.block hk5.1⟩
            have HSH := Lib.hid (Kept8.crash HS.out.2.2.2.2.2)
            have HPL := Lib.hid (HS.out.2.2.2.1.crash m)
            generalize ({ D.crash m with down := false } : DskV) = Dn at *
            clear hs5 hd5 hk5 HS4 HS hk hlt hlt'
            go_wp2_with fail
            go_loopg [12, 13, 14] 8 (fun g2 v12 _ _ wx => ∃ j : Nat, v12 = .int .i64 (j : Int) ∧ j + g2 = 8 ∧ Hid (Ses W W.heap.size F3 b Dn wx ∧ Arr8 wx Z ps))
            case atStart => exact ⟨0, rfl, rfl, HS5⟩
            case round =>
              clear HS5
              obtain ⟨j, rfl, hj, HJ⟩ := hrel
              by_cases hj8 : j < 8
              · have hj' : (j : Int) < 8 := by omega
                have hj0 : (0 : Int) ≤ (j : Int) := by omega
                have hwj : IntKind.i64.wrap ((j : Int) + 1) = (j : Int) + 1 := IntWalk.i64_in _ (by omega)
                have HRD := ses_read HJ.out.1 (j : Int)
                rw [HPL.out.why hj8, HPL.out.seen hj8] at HRD
                have HRD := Lib.hid HRD
                have hpg := HJ.out.2.at (HSH.out j hj8)
                obtain ⟨pj, hpj⟩ : ∃ pj, pj = Dn.read (j : Int) := ⟨_, rfl⟩
                rw [← hpj] at hpg HRD
                have hp64 := hpg.2
                have q1 := isPv_agg hp64
                have HPJ := Lib.hid hpg.1
                clear hpg hpj
                go_wp2_with fail
                refine HRD.out.mono ?_
                rintro e w7 ⟨rfl, hs7, hb7⟩
                have q2 := there_zp w7 37
                have q3 := set_zp (w := w7) (N := w7.heap.size) rfl (t := 37) hp64
                have hx8 := hs7.box (.cells (cellsB pj).toArray 37)
                have hb8 : Below w7.heap.size w7 (w7.alloc (.cells (cellsB pj).toArray 37)) := (Below.refl _ _).alloc (Nat.le_refl _) _
                have hZ7 : Z < w7.heap.size := Nat.lt_of_lt_of_le HJ.out.2.lt hb7.size
                have HS8 : Hid (Ses W W.heap.size F3 b Dn (w7.alloc (.cells (cellsB pj).toArray 37)) ∧ Arr8 (w7.alloc (.cells (cellsB pj).toArray 37)) Z ps ∧ (w7.alloc (.cells (cellsB pj).toArray 37)).rangeAt w7.heap.size 0 (cellsB pj) ∧ (w7.alloc (.cells (cellsB pj).toArray 37)).rangeAt Z (j * 64) (cellsB pj)) :=
                  ⟨hx8.1, (HJ.out.2.block (hb7.block Z HJ.out.2.lt)).block (hb8.block Z hZ7), range_cells w7 w7.heap.size rfl (cellsB pj) 37, rangeAt_below (rangeAt_below HPJ.out hb7 HJ.out.2.lt) hb8 hZ7⟩
                clear hs7 hb7 hx8 hb8 hZ7
                go_wp2_with fail
                clear q2 q3
                generalize w7.alloc (.cells (cellsB pj).toArray 37) = w8 at *
                generalize w7.heap.size = N8 at *
                have y1 := isPg HS8.out.2.2.1 hp64
                have y2 := pgAt_eq HS8.out.2.2.1 hp64
                have y3 := isPg HS8.out.2.2.2 hp64
                have y4 := pgAt_eq HS8.out.2.2.2 hp64
                go_quiet ((go_at_call 10; exact Calls.quiet_of_same (code_z _)))
                have hb9 := below_drewN w8 nq
                have HS9 : Hid (Ses W W.heap.size F3 b Dn (w8.drewN nq) ∧ Arr8 (w8.drewN nq) Z ps) := ⟨HS8.out.1.keep hb9, HS8.out.2.1.block (hb9.block Z HS8.out.2.1.lt)⟩
                clear y1 y2 y3 y4 hb9
                generalize w8.drewN nq = w9 at *
                go_wp2_with fail
                go_roundg (gk - 1)
                case measure => omega
                case rel => exact ⟨j + 1, by simp, by omega, HS9⟩
              · have hj' : ¬ (j : Int) < 8 := by omega
                go_wp2_with fail
                refine (ses_code HJ.out.1 0).mono ?_
                rintro e w6 ⟨rfl, hs6, _⟩
                have HS6 := Lib.hid hs6
                have hsl : Dn.soft.length = 0 := Nat.le_zero.1 HPL.out.few
                have HSF := soft_any hs6.dsk
                rw [hsl] at HSF
                have HSF := Lib.hid HSF
                clear hs6 hsl
                go_wp2_with fail
                refine HSF.out.mono ?_
                rintro e w7 ⟨rfl, rfl⟩
                go_wp2
                go_ret
                exact ⟨rfl, HS6.out.below⟩
end Go.Proofs.YtgjakhfmjnpkcaaDoor
