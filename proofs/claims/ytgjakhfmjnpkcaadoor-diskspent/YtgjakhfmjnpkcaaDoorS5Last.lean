/-
  DiskLast walked: the law returns true. Condition: errorType holds error's type.
-/
import Derived.Test.YtgjakhfmjnpkcaaDoorS5Law
import Derived.Deep.QuietTactic
import Derived.BigQuiet
namespace Go.Proofs.YtgjakhfmjnpkcaaDoor
open Go.RowKit Go.Maps

/-- A disk of eight sectors, up, without a budget, with at most n writes that aren't firm. -/
structure Plain8 (D : DskV) (n : Nat) : Prop where
  size : D.size = 8
  down : D.down = false
  bud : D.budget = -1
  few : D.soft.length ≤ n
theorem plain_fresh : Plain8 (DskV.fresh 8) 0 := ⟨rfl, rfl, rfl, Nat.le_refl _⟩
theorem Plain8.why {D : DskV} {n : Nat} (h : Plain8 D n) {q : Nat} (hq : q < 8) : D.why (q : Int) = 0 := by
  unfold DskV.why
  rw [h.down, h.size]
  simp
  omega
theorem Plain8.refuse {D : DskV} {n : Nat} (h : Plain8 D n) {q : Nat} (hq : q < 8) : D.refuse (q : Int) = 0 := by
  unfold DskV.refuse
  rw [if_pos (h.why hq), h.bud]
  rfl
theorem Plain8.wrote {D : DskV} {n : Nat} (h : Plain8 D n) {q : Nat} (hq : q < 8) (p : PgL) : D.wrote (q : Int) p = D.write (q : Int) p ∧ Plain8 (D.write (q : Int) p) (n + 1) :=
  ⟨if_pos (h.refuse hq), h.size, h.down, by show D.bud = -1; unfold DskV.bud; rw [if_pos h.bud], by show (D.soft ++ [((q : Int), p)]).length ≤ n + 1; have := h.few; simp; omega⟩
theorem Plain8.flush {D : DskV} {n : Nat} (h : Plain8 D n) : D.flushed = D.flush ∧ Plain8 D.flush n := ⟨flushed_up h.down, h.size, h.down, h.bud, Nat.zero_le _⟩
theorem Plain8.seen {D : DskV} {n : Nat} (h : Plain8 D n) {q : Nat} (hq : q < 8) : D.seen (q : Int) = D.read (q : Int) := if_pos (h.why hq)
/-- The pages are what is read. -/
def Shows8 (D : DskV) (ps : List PgL) : Prop := ∀ q : Nat, q < 8 → ps[q]? = some (D.read (q : Int))
theorem Shows8.write {D : DskV} {ps : List PgL} (h : Shows8 D ps) (hl : ps.length = 8) {q : Nat} (hq : q < 8) (p : PgL) : Shows8 (D.write (q : Int) p) (ps.set q p) := fun j hj => by
  rw [read_write]
  by_cases e : q = j
  · subst e
    rw [List.getElem?_set_self (by omega), if_pos rfl]
  · rw [List.getElem?_set_ne e, if_neg (by omega)]
    exact h j hj

attribute [local go_sem ↓] ldw_pg stw_pg alw_pg bdw_pg0 bdw_pg1 eqw_pg new_pg alw_a8 qld_pg qne_pg qeq_pg
attribute [local go_sem] isPgV_ptr pgAtV_ptr thereV_ptr setV_ptr cellsV_agg pvEq_agg
set_option maxRecDepth 10000 in
set_option maxHeartbeats 1000000 in
theorem last_true (W : World) (a0 : Option Addr) (cap0 : Nat) (L : List ActV) (hrow : RowN 67 actCells W a0 cap0 L) (hok : ∀ x ∈ L, x.ok) (hg : EtLaid W) :
    Calls Tryd.prog 7 #[.slice a0 L.length cap0] W fun e w' => e = .returned (.bool true) ∧ Below W.heap.size W w' := by
  have HG := Lib.hid hg
  have HROW := Lib.hid hrow
  have HOK := Lib.hid hok
  have HBT := Lib.hid hg.lt
  obtain ⟨n, hn⟩ : ∃ n, L.length = n := ⟨_, rfl⟩
  rw [hn]
  have HN := Lib.hid hn
  clear hg hrow hok hn
  go_enter Tryd.func7, Tryd.ntmps7
  go_wp2_with fail
  refine (awake_true W HG.out).mono ?_
  rintro e w1 ⟨rfl, hb1⟩
  have HB1 := Lib.hid hb1
  have HG1 := Lib.hid (HG.out.below HBT.out hb1)
  clear hb1
  by_cases h80 : (80 : Int) < (n : Int)
  · go_wp2_with fail
    refine (awake_true w1 HG1.out).mono ?_
    rintro e w2 ⟨rfl, hb2⟩
    have HB2 := Lib.hid hb2
    clear hb2
    go_wp2
    go_ret
    exact ⟨rfl, HB1.out.trans (HB2.out.mono HB1.out.size)⟩
  · go_wp2_with fail
    refine (ses_new (W := W) (B := W.heap.size) 8 (by decide) (by decide) HB1.out (Nat.le_refl _) HG1.out).mono ?_
    rintro e w2 ⟨b, F2, rfl, hs2, _, _⟩
    have hx := hs2.box (.cells z8c 52)
    have HS3 : Hid (Ses W W.heap.size F2 b (DskV.fresh 8) (w2.alloc (.cells z8c 52)) ∧ ¬ F2 w2.heap.size ∧ Arr8 (w2.alloc (.cells z8c 52)) w2.heap.size (List.replicate 8 zpg)) := ⟨hx.1, hx.2.1, Arr8.new w2⟩
    have HZ0 : Hid (W.heap.size ≤ w2.heap.size) := hs2.below.size
    clear hs2 hx
    have hn80 : n ≤ 80 := by omega
    clear h80
    go_wp2_with fail
    generalize w2.alloc (.cells z8c 52) = w3 at *
    have HZ : Hid (W.heap.size ≤ w2.heap.size) := HZ0
    clear HZ0
    generalize w2.heap.size = Z at *
    go_loopg [6, 7, 8, 9] n (fun gg v6 _ _ _ wx => ∃ (k : Nat) (F : Nat → Prop) (D : DskV) (ps : List PgL), v6 = .int .i64 (k : Int) ∧ k + gg = n ∧ Hid (Ses W W.heap.size F b D wx ∧ ¬ F Z ∧ Arr8 wx Z ps ∧ Plain8 D k ∧ Shows8 D ps))
    case atStart => exact ⟨0, F2, DskV.fresh 8, List.replicate 8 zpg, rfl, by omega, HS3.out.1, HS3.out.2.1, HS3.out.2.2, plain_fresh, fun q hq => by
      rw [List.getElem?_replicate, if_pos hq]
      rfl⟩
    case round =>
      clear HS3
      obtain ⟨k, F, D, ps, rfl, hk, HS⟩ := hrel
      by_cases hlt : k < n
      · have hlt' : (k : Int) < (n : Int) := by omega
        have hw1 : IntKind.i64.wrap ((k : Int) + 1) = (k : Int) + 1 := IntWalk.i64_in _ (by omega)
        obtain ⟨ba, off, x, rfl, hba, hra, hxm, htk, hdr⟩ := HROW.out.at HS.out.1.below (k := k) (by have := HN.out; omega)
        have hx64 := (HOK.out x hxm).2.2.1
        have hwt := (HOK.out x hxm).1
        obtain ⟨a1, a2, a3, a4⟩ := act_at hx64 hra
        have HA2 := Lib.hid a2
        have HA3 := Lib.hid a3
        obtain ⟨q, hq8, hq⟩ := place8 x.place
        have HBA := Lib.hid hba
        clear a2 a3 a4 hra htk hdr hxm hba
        go_upto_if 34 with fail
        go_cut [] from 22 to 83 (fun wc => ∃ (F' : Nat → Prop) (D' : DskV), Hid (Ses W W.heap.size F' b D' wc ∧ ¬ F' Z ∧ Arr8 wc Z ps ∧ Plain8 D' k ∧ Shows8 D' ps))
        case first =>
          by_cases h4 : x.what % 5 = 4
          · have h4' : (x.what % 5 == 4) = true := by simp [h4]
            go_wp2_with fail
            refine (ses_flush HS.out.1 HBT.out).mono ?_
            rintro e w4 ⟨rfl, F', hs4, hd4⟩
            rw [HS.out.2.2.2.1.down]
            have hk4 := hd4.block HS.out.2.2.1.lt HS.out.2.1
            rw [HS.out.2.2.2.1.flush.1] at hs4
            have HS4 : Hid (Ses W W.heap.size F' b D.flush w4 ∧ ¬ F' Z ∧ Arr8 w4 Z ps ∧ Plain8 D.flush k ∧ Shows8 D.flush ps) := ⟨hs4, hk4.2.1, HS.out.2.2.1.block hk4.1, HS.out.2.2.2.1.flush.2, HS.out.2.2.2.2⟩
            clear hs4 hd4 hk4
            go_wp2_with fail
            go_meet
            exact ⟨F', D.flush, HS4⟩
          · have h4' : (x.what % 5 == 4) = false := by simp [h4]
            go_wp2_with fail
            go_meet
            exact ⟨F, D, HS⟩
        case rest =>
          obtain ⟨F', D', HC⟩ := hcut
          have hal : Below ba.succ wr wc → True := fun _ => trivial
          have hcA : wc.cell? ⟨ba, off + k * 67 + 1, none⟩ = some (.int .i64 x.place) := by
            have h1 := HS.out.1.below.cell (p := ⟨ba, off + k * 67 + 1, none⟩) HBA.out
            have h2 := HC.out.1.below.cell (p := ⟨ba, off + k * 67 + 1, none⟩) HBA.out
            exact h2.trans (h1.symm.trans HA2.out)
          have hcP : wc.rangeAt ba (off + k * 67 + 2) (cellsB x.page) := fun j v hv => by
            have h1 := HS.out.1.below.cell (p := ⟨ba, off + k * 67 + 2 + j, none⟩) HBA.out
            have h2 := HC.out.1.below.cell (p := ⟨ba, off + k * 67 + 2 + j, none⟩) HBA.out
            exact h2.trans (h1.symm.trans (HA3.out j v hv))
          clear hal HS HA2 HA3 a1
          -- what acts hold stays
          have kS : ∀ w', Below W.heap.size wc w' → w'.cell? ⟨ba, off + k * 67 + 1, none⟩ = some (.int .i64 x.place) ∧ w'.rangeAt ba (off + k * 67 + 2) (cellsB x.page) := fun w' hb => ⟨(hb.cell (p := ⟨ba, off + k * 67 + 1, none⟩) HBA.out).trans hcA, rangeAt_below hcP hb HBA.out⟩
          have HKS := Lib.hid kS
          have p1 := Tryd.underlying37
          have p2 : (Tryd.prog.info? 37).map (·.size) = some (cellsB x.page).length := by rw [pgSize, cellsB_len, hx64]
          have hWR := HC.out.2.2.2.1.wrote hq8 x.page
          have HKW : Hid (∀ w', Ses W W.heap.size F' b D' w' → Calls Tryd.prog 18 #[.pointer (some ⟨b, 0, none⟩), .int .i64 (q : Int), .agg (cellsB x.page).toArray] w' fun e w'' => e = .returned (errV 0) ∧ ∃ F'', Ses W W.heap.size F'' b (D'.write (q : Int) x.page) w'' ∧ Did F' F'' w' w'') := fun w' hs => by
            have := ses_write hs HBT.out (q : Int) x.page hx64 (by have := HC.out.2.2.2.1.few; omega)
            rw [hWR.1, HC.out.2.2.2.1.refuse hq8] at this
            exact this
          clear kS hcA hcP
          go_wp2_with fail
          go_region_held3 (fun w' => w'.cell? ⟨ba, off + k * 67 + 1, none⟩ = some (.int .i64 x.place) ∧ w'.rangeAt ba (off + k * 67 + 2) (cellsB x.page))
            (first
              | (exact HKS.out _ (by assumption))
              | (exact HKS.out _ (Below.drew (Below.refl _ _))))
            (first
              | (go_at_call 18; refine (HKW.out wc.drew (HC.out.1.keep (Below.refl _ _).drew)).mono ?_; rintro e w4 ⟨rfl, F4, hs4, hd4⟩; have hb4 : Below W.heap.size wc w4 := did_below HC.out.1 hd4)
              | (go_at_call 10; refine (ses_code hs4 0).mono ?_; rintro e w5 ⟨rfl, hs5, hb5⟩; have hb45 : Below W.heap.size wc w5 := hb4.trans (hb5.mono (Nat.le_trans HC.out.1.below.size hb4.size))))
          have hdz := hd4.block (k := Z) (Nat.lt_of_lt_of_le HC.out.2.2.1.lt (Nat.le_refl _)) HC.out.2.1
          have har5 : Arr8 w5 Z ps := (HC.out.2.2.1.block hdz.1).block (hb5.block Z hdz.2.2)
          have HR5 := Lib.hid har5
          have HF5 := Lib.hid hdz.2.1
          have HS5 := Lib.hid hs5
          have HB5 := Lib.hid hb45
          have HSH := Lib.hid (HC.out.2.2.2.2.write HC.out.2.2.1.1 hq8 x.page)
          have HPL := Lib.hid hWR.2
          have t1 : w5.drew.there Z (q * 64) 64 := har5.there hq8
          have t2 := cellsB_one x.page
          have t3 : w5.drew.there Z (q * 64) (cellsB x.page).length := by rw [cellsB_len, hx64]; exact t1
          have hq0 : (0 : Int) ≤ (q : Int) := by omega
          have hq1 : (q : Int) < 8 := by omega
          clear hdz har5 hs5 hb45 hb5 hb4 hs4 hd4 HC HKW hWR
          go_wp2_with fail
          go_region_held3 (fun w' => w'.cell? ⟨ba, off + k * 67 + 1, none⟩ = some (.int .i64 x.place) ∧ w'.rangeAt ba (off + k * 67 + 2) (cellsB x.page))
            (first
              | (exact HKS.out _ (Below.drew HB5.out))
              | (exact HKS.out _ (below_cells (Below.drew HB5.out) HZ.out _ _)))
            (fail)
          have HS6 : Hid (Ses W W.heap.size F4 b (D'.write (q : Int) x.page) (w5.drew.setCells Z (q * 64) (cellsB x.page)) ∧ Arr8 (w5.drew.setCells Z (q * 64) (cellsB x.page)) Z (ps.set q x.page)) :=
            ⟨(HS5.out.keep (Below.refl _ _).drew).beside HZ.out HF5.out HBT.out _ _, (HR5.out.block (w' := w5.drew) rfl).set hq8 hx64⟩
          generalize w5.drew.setCells Z (q * 64) (cellsB x.page) = w6 at *
          generalize D'.write (q : Int) x.page = Dn at *
          generalize ps.set q x.page = pn at *
          clear t1 t2 t3 HR5 HS5 HB5 HKS p1 p2 hq hq0 hq1 hq8 hx64 hwt
          go_wp2_with fail
          go_loopg [7, 8, 9] 8 (fun g2 v7 _ _ wx => ∃ j : Nat, v7 = .int .i64 (j : Int) ∧ j + g2 = 8 ∧ Hid (Ses W W.heap.size F4 b Dn wx ∧ Arr8 wx Z pn))
          case atStart => exact ⟨0, rfl, rfl, HS6⟩
          case round =>
            clear HS6
            obtain ⟨j, rfl, hj, HJ⟩ := hrel
            by_cases hj8 : j < 8
            · have hj' : (j : Int) < 8 := by omega
              have hj0 : (0 : Int) ≤ (j : Int) := by omega
              have hwj : IntKind.i64.wrap ((j : Int) + 1) = (j : Int) + 1 := IntWalk.i64_in _ (by omega)
              have HRD := ses_read HJ.out.1 (j : Int)
              rw [HPL.out.why hj8, HPL.out.seen hj8] at HRD
              have HRD := Lib.hid HRD
              have hpg := HJ.out.2.at (HSH.out j hj8)
              obtain ⟨pj, hpj⟩ : ∃ pj, pj = Dn.read (j : Int) := ⟨_, rfl⟩
              rw [← hpj] at hpg HRD
              have hp64 := hpg.2
              have q1 := isPv_agg hp64
              have HPJ := Lib.hid hpg.1
              clear hpg hpj
              go_wp2_with fail
              refine HRD.out.mono ?_
              rintro e w7 ⟨rfl, hs7, hb7⟩
              have q2 := there_zp w7 37
              have q3 := set_zp (w := w7) (N := w7.heap.size) rfl (t := 37) hp64
              have hx8 := hs7.box (.cells (cellsB pj).toArray 37)
              have hb8 : Below w7.heap.size w7 (w7.alloc (.cells (cellsB pj).toArray 37)) := (Below.refl _ _).alloc (Nat.le_refl _) _
              have hZ7 : Z < w7.heap.size := Nat.lt_of_lt_of_le HJ.out.2.lt hb7.size
              have HS8 : Hid (Ses W W.heap.size F4 b Dn (w7.alloc (.cells (cellsB pj).toArray 37)) ∧ Arr8 (w7.alloc (.cells (cellsB pj).toArray 37)) Z pn ∧ (w7.alloc (.cells (cellsB pj).toArray 37)).rangeAt w7.heap.size 0 (cellsB pj) ∧ (w7.alloc (.cells (cellsB pj).toArray 37)).rangeAt Z (j * 64) (cellsB pj)) :=
                ⟨hx8.1, (HJ.out.2.block (hb7.block Z HJ.out.2.lt)).block (hb8.block Z hZ7), range_cells w7 w7.heap.size rfl (cellsB pj) 37, rangeAt_below (rangeAt_below HPJ.out hb7 HJ.out.2.lt) hb8 hZ7⟩
              clear hs7 hb7 hx8 hb8 hZ7
              go_wp2_with fail
              clear q2 q3
              generalize w7.alloc (.cells (cellsB pj).toArray 37) = w8 at *
              generalize w7.heap.size = N8 at *
              have y1 := isPg HS8.out.2.2.1 hp64
              have y2 := pgAt_eq HS8.out.2.2.1 hp64
              have y3 := isPg HS8.out.2.2.2 hp64
              have y4 := pgAt_eq HS8.out.2.2.2 hp64
              go_quiet ((go_at_call 10; exact Calls.quiet_of_same (code_z _)))
              have hb9 := below_drewN w8 nq
              have HS9 : Hid (Ses W W.heap.size F4 b Dn (w8.drewN nq) ∧ Arr8 (w8.drewN nq) Z pn) := ⟨HS8.out.1.keep hb9, HS8.out.2.1.block (hb9.block Z HS8.out.2.1.lt)⟩
              clear y1 y2 y3 y4 hb9
              generalize w8.drewN nq = w9 at *
              go_wp2_with fail
              go_roundg (gk - 1)
              case measure => omega
              case rel => exact ⟨j + 1, by simp, by omega, HS9⟩
            · have hj' : ¬ (j : Int) < 8 := by omega
              go_wp2_with fail
              go_roundg (n - (k + 1))
              case measure => omega
              case rel => exact ⟨k + 1, F4, Dn, pn, by simp, by omega, HJ.out.1, HF5.out, HJ.out.2, HPL.out, HSH.out⟩
      · have hlt' : ¬ (k : Int) < (n : Int) := by omega
        go_wp2_with fail
        refine (ses_code HS.out.1 0).mono ?_
        rintro e w4 ⟨rfl, hs4, _⟩
        have HS4 := Lib.hid hs4
        clear hs4
        go_wp2
        go_ret
        exact ⟨rfl, HS4.out.below⟩
end Go.Proofs.YtgjakhfmjnpkcaaDoor
