/-
  DiskSpent walked: the law returns true. Condition: errorType holds error's type.
-/
import Derived.Test.YtgjakhfmjnpkcaaDoorS5Last
namespace Go.Proofs.YtgjakhfmjnpkcaaDoor
open Go.RowKit Go.Maps

/-- A disk of eight sectors, up, with a budget of K, behind i writes. -/
structure Spent8 (D : DskV) (K i : Nat) : Prop where
  size : D.size = 8
  down : D.down = false
  bud : D.budget = ((K - i : Nat) : Int)
  len : D.soft.length = min i K
theorem Spent8.why {D : DskV} {K i : Nat} (h : Spent8 D K i) {q : Nat} (hq : q < 8) : D.why (q : Int) = 0 := by
  unfold DskV.why
  rw [h.down, h.size]
  simp
  omega
theorem Spent8.seen {D : DskV} {K i : Nat} (h : Spent8 D K i) {q : Nat} (hq : q < 8) : D.seen (q : Int) = D.read (q : Int) := if_pos (h.why hq)
theorem Spent8.refuse {D : DskV} {K i : Nat} (h : Spent8 D K i) {q : Nat} (hq : q < 8) : D.refuse (q : Int) = if i < K then 0 else 10 := by
  unfold DskV.refuse
  rw [if_pos (h.why hq), h.bud]
  by_cases e : i < K
  · rw [if_pos e, if_neg (by omega)]
  · rw [if_neg e, if_pos (by omega)]
theorem Spent8.wrote {D : DskV} {K i : Nat} (h : Spent8 D K i) {q : Nat} (hq : q < 8) (p : PgL) : Spent8 (D.wrote (q : Int) p) K (i + 1) := by
  unfold DskV.wrote
  rw [h.refuse hq]
  by_cases e : i < K
  · rw [if_pos e, if_pos rfl]
    refine ⟨h.size, h.down, ?_, ?_⟩
    · show D.bud = _
      unfold DskV.bud
      rw [h.bud, if_neg (by omega)]
      omega
    · show (D.soft ++ [((q : Int), p)]).length = _
      rw [List.length_append, h.len, List.length_singleton]
      omega
  · rw [if_neg e, if_neg (by decide)]
    exact ⟨h.size, h.down, by rw [h.bud]; omega, by rw [h.len]; omega⟩
theorem Spent8.same {D : DskV} {K i : Nat} (h : Spent8 D K i) (hi : ¬ i < K) {q : Nat} (hq : q < 8) (p : PgL) : D.wrote (q : Int) p = D := by
  unfold DskV.wrote
  rw [h.refuse hq, if_neg hi]
  exact if_neg (by decide)

attribute [local go_sem ↓] ldw_pg stw_pg alw_pg bdw_pg0 bdw_pg1 eqw_pg new_pg qld_pg qne_pg qeq_pg
attribute [local go_sem] isPgV_ptr pgAtV_ptr thereV_ptr setV_ptr cellsV_agg pvEq_agg
set_option maxRecDepth 10000 in
set_option maxHeartbeats 1000000 in
theorem spent_true (W : World) (nn : Int) (hnn : 0 ≤ nn ∧ nn ≤ 255) (a0 : Option Addr) (cap0 : Nat) (L : List ActV) (hrow : RowN 67 actCells W a0 cap0 L) (hok : ∀ x ∈ L, x.ok) (hg : EtLaid W) :
    Calls Tryd.prog 5 #[.int .u8 nn, .slice a0 L.length cap0] W fun e w' => e = .returned (.bool true) ∧ Below W.heap.size W w' := by
  have HG := Lib.hid hg
  have HROW := Lib.hid hrow
  have HOK := Lib.hid hok
  have HBT := Lib.hid hg.lt
  obtain ⟨n, hn⟩ : ∃ n, L.length = n := ⟨_, rfl⟩
  rw [hn]
  have HN := Lib.hid hn
  obtain ⟨K, hK⟩ : ∃ K : Nat, nn % 30 = (K : Int) := ⟨(nn % 30).toNat, by omega⟩
  have hK30 : K < 30 := by omega
  have hw0 : IntKind.i64.wrap nn = nn := IntWalk.i64_in _ (by omega)
  clear hg hrow hok hn
  go_enter Tryd.func5, Tryd.ntmps5
  go_wp2_with fail
  refine (awake_true W HG.out).mono ?_
  rintro e w1 ⟨rfl, hb1⟩
  have HB1 := Lib.hid hb1
  have HG1 := Lib.hid (HG.out.below HBT.out hb1)
  clear hb1
  by_cases h80 : (80 : Int) < (n : Int)
  · go_wp2_with fail
    refine (awake_true w1 HG1.out).mono ?_
    rintro e w2 ⟨rfl, hb2⟩
    have HB2 := Lib.hid hb2
    clear hb2
    go_wp2
    go_ret
    exact ⟨rfl, HB1.out.trans (HB2.out.mono HB1.out.size)⟩
  · go_wp2_with fail
    refine (ses_new (W := W) (B := W.heap.size) 8 (by decide) (by decide) HB1.out (Nat.le_refl _) HG1.out).mono ?_
    rintro e w2 ⟨b, F2, rfl, hs2, _, _⟩
    have HS2 := Lib.hid hs2
    have hn80 : n ≤ 80 := by omega
    clear h80 hs2
    go_wp2_with fail
    refine (ses_budget HS2.out HBT.out (K : Int) (by omega)).mono ?_
    rintro e w3 ⟨rfl, hs3, _⟩
    have HS3 : Hid (Ses W W.heap.size F2 b { DskV.fresh 8 with budget := (K : Int) } w3 ∧ Spent8 { DskV.fresh 8 with budget := (K : Int) } K 0) := ⟨by rw [if_neg (by omega)] at hs3; exact hs3, rfl, rfl, rfl, (Nat.zero_min K).symm⟩
    clear hs3 HS2
    generalize ({ DskV.fresh 8 with budget := (K : Int) } : DskV) = D3 at *
    go_wp2_with fail
    go_loopg [8, 9, 10, 11, 12, 13] n (fun gg v8 _ _ _ _ _ wx => ∃ (k : Nat) (F : Nat → Prop) (D : DskV), v8 = .int .i64 (k : Int) ∧ k + gg = n ∧ Hid (Ses W W.heap.size F b D wx ∧ Spent8 D K k))
    case atStart => exact ⟨0, F2, D3, rfl, by omega, HS3⟩
    case round =>
      clear HS3
      obtain ⟨k, F, D, rfl, hk, HS⟩ := hrel
      by_cases hlt : k < n
      · have hlt' : (k : Int) < (n : Int) := by omega
        have hw1 : IntKind.i64.wrap ((k : Int) + 1) = (k : Int) + 1 := IntWalk.i64_in _ (by omega)
        obtain ⟨ba, off, x, rfl, hba, hra, hxm, htk, hdr⟩ := HROW.out.at HS.out.1.below (k := k) (by have := HN.out; omega)
        have hx64 := (HOK.out x hxm).2.2.1
        obtain ⟨c1, c2, c3, c4⟩ := act_at hx64 hra
        obtain ⟨q, hq8, hq⟩ := place8 x.place
        have kS : ∀ w', Below W.heap.size wr w' → w'.cell? ⟨ba, off + k * 67 + 1, none⟩ = some (.int .i64 x.place) ∧ w'.rangeAt ba (off + k * 67 + 2) (cellsB x.page) := fun w' hb => ⟨(hb.cell (p := ⟨ba, off + k * 67 + 1, none⟩) hba).trans c2, rangeAt_below c3 hb hba⟩
        have HKS := Lib.hid kS
        have p1 := Tryd.underlying37
        have p2 : (Tryd.prog.info? 37).map (·.size) = some (cellsB x.page).length := by rw [pgSize, cellsB_len, hx64]
        have HRD := ses_read HS.out.1 (q : Int)
        rw [HS.out.2.why hq8, HS.out.2.seen hq8] at HRD
        have HRD := Lib.hid HRD
        obtain ⟨pw, hpw⟩ : ∃ pw, pw = D.read (q : Int) := ⟨_, rfl⟩
        have hp64 : pw.length = 64 := by rw [hpw]; exact HS.out.1.dsk.ok.read _
        rw [← hpw] at HRD
        have HPW := Lib.hid hpw
        have q1 := isPv_agg hp64
        clear kS c1 c3 c4 hra htk hdr hxm hba hpw
        go_wp2_with fail
        refine HRD.out.mono ?_
        rintro e w4 ⟨rfl, hs4, hb4⟩
        have q2 := there_zp w4 37
        have q3 := set_zp (w := w4) (N := w4.heap.size) rfl (t := 37) hp64
        have hx5 := hs4.box (.cells (cellsB pw).toArray 37)
        have hb5 : Below w4.heap.size w4 (w4.alloc (.cells (cellsB pw).toArray 37)) := (Below.refl _ _).alloc (Nat.le_refl _) _
        have HS5 : Hid (Ses W W.heap.size F b D (w4.alloc (.cells (cellsB pw).toArray 37)) ∧ ¬ F w4.heap.size ∧ w4.heap.size < (w4.alloc (.cells (cellsB pw).toArray 37)).heap.size ∧ (w4.alloc (.cells (cellsB pw).toArray 37)).rangeAt w4.heap.size 0 (cellsB pw) ∧ Below W.heap.size wr (w4.alloc (.cells (cellsB pw).toArray 37)) ∧ W.heap.size ≤ w4.heap.size) :=
          ⟨hx5.1, hx5.2.1, hx5.2.2, range_cells w4 w4.heap.size rfl (cellsB pw) 37, (hb4.mono HS.out.1.below.size).trans (hb5.mono (Nat.le_trans HS.out.1.below.size hb4.size)), hs4.below.size⟩
        clear hs4 hb4 hx5 hb5
        go_wp2_with fail
        clear q2 q3 c2
        generalize w4.alloc (.cells (cellsB pw).toArray 37) = w5 at *
        generalize w4.heap.size = N5 at *
        obtain ⟨ev, hev⟩ : ∃ ev, ev = errV (if k < K then 0 else 10) := ⟨_, rfl⟩
        have HEV := Lib.hid hev
        have HKW : Hid (Calls Tryd.prog 18 #[.pointer (some ⟨b, 0, none⟩), .int .i64 (q : Int), .agg (cellsB x.page).toArray] w5.drew fun e w'' => e = .returned ev ∧ ∃ F'', Ses W W.heap.size F'' b (D.wrote (q : Int) x.page) w'' ∧ Did F F'' w5.drew w'') := by
          have := ses_write (HS5.out.1.keep (Below.refl _ _).drew) HBT.out (q : Int) x.page hx64 (by have := HS.out.2.len; omega)
          rw [HS.out.2.refuse hq8, ← hev] at this
          exact this
        clear hev
        go_region_held3 (fun w' => w'.cell? ⟨ba, off + k * 67 + 1, none⟩ = some (.int .i64 x.place) ∧ w'.rangeAt ba (off + k * 67 + 2) (cellsB x.page))
          (first
            | (exact HKS.out _ (by assumption))
            | (exact HKS.out _ (Below.drew HS5.out.2.2.2.2.1)))
          (first
            | (go_at_call 18; refine HKW.out.mono ?_; rintro e w6 ⟨rfl, F6, hs6, hd6⟩; have hb6 : Below W.heap.size wr w6 := HS5.out.2.2.2.2.1.trans (did_below HS5.out.1 hd6)))
        have hk6 := hd6.block (k := N5) HS5.out.2.2.1 HS5.out.2.1
        have HS6 : Hid (Ses W W.heap.size F6 b (D.wrote (q : Int) x.page) w6 ∧ w6.rangeAt N5 0 (cellsB pw) ∧ N5 < w6.heap.size) := ⟨hs6, range_below_of (w := w5) HS5.out.2.2.2.1 hk6.1, hk6.2.2⟩
        have HSP := Lib.hid (HS.out.2.wrote hq8 x.page)
        have c2 := (HKS.out _ hb6).1
        have HSM : Hid (¬ k < K → D.wrote (q : Int) x.page = D) := fun h => HS.out.2.same h hq8 x.page
        have HLN : Hid (¬ k < K → D.soft.length = K) := fun h => by have := HS.out.2.len; omega
        clear hk6 hs6 hd6 HKW hb6 HS5 p1 p2
        obtain ⟨Dn, hDn⟩ : ∃ Dn, Dn = D.wrote (q : Int) x.page := ⟨_, rfl⟩
        rw [← hDn] at HS6 HSP HSM
        clear hDn
        have HRD2 := ses_read HS6.out.1 (q : Int)
        rw [HSP.out.why hq8, HSP.out.seen hq8] at HRD2
        have HRD2 := Lib.hid HRD2
        obtain ⟨pn, hpn⟩ : ∃ pn, pn = Dn.read (q : Int) := ⟨_, rfl⟩
        have hn64 : pn.length = 64 := by rw [hpn]; exact HS6.out.1.dsk.ok.read _
        rw [← hpn] at HRD2
        have HPN : Hid (¬ k < K → pn = pw) := fun h => by rw [hpn, HSM.out h, HPW.out]
        have HLN2 : Hid (¬ k < K → Dn.soft.length = K) := fun h => by rw [HSM.out h]; exact HLN.out h
        have q4 := isPv_agg hn64
        clear hpn
        go_wp2_with fail
        refine HRD2.out.mono ?_
        rintro e w7 ⟨rfl, hs7, hb7⟩
        have q2 := there_zp w7 37
        have q3 := set_zp (w := w7) (N := w7.heap.size) rfl (t := 37) hn64
        have hx8 := hs7.box (.cells (cellsB pn).toArray 37)
        have hb8 : Below w7.heap.size w7 (w7.alloc (.cells (cellsB pn).toArray 37)) := (Below.refl _ _).alloc (Nat.le_refl _) _
        have hN7 : N5 < w7.heap.size := Nat.lt_of_lt_of_le HS6.out.2.2 hb7.size
        have HS8 : Hid (Ses W W.heap.size F6 b Dn (w7.alloc (.cells (cellsB pn).toArray 37)) ∧ (w7.alloc (.cells (cellsB pn).toArray 37)).rangeAt N5 0 (cellsB pw) ∧ (w7.alloc (.cells (cellsB pn).toArray 37)).rangeAt w7.heap.size 0 (cellsB pn) ∧ N5 < (w7.alloc (.cells (cellsB pn).toArray 37)).heap.size ∧ w7.heap.size < (w7.alloc (.cells (cellsB pn).toArray 37)).heap.size) :=
          ⟨hx8.1, rangeAt_below (rangeAt_below HS6.out.2.1 hb7 HS6.out.2.2) hb8 hN7, range_cells w7 w7.heap.size rfl (cellsB pn) 37, by simp; omega, by simp⟩
        clear hs7 hb7 hx8 hb8 hN7
        go_wp2_with fail
        clear q2 q3 c2
        generalize w7.alloc (.cells (cellsB pn).toArray 37) = w8 at *
        generalize w7.heap.size = N8 at *
        rw [HEV.out]
        refine (ses_code HS8.out.1 _).mono ?_
        rintro e w9 ⟨rfl, hs9, hb9⟩
        have HS9 : Hid (Ses W W.heap.size F6 b Dn w9 ∧ w9.rangeAt N5 0 (cellsB pw) ∧ w9.rangeAt N8 0 (cellsB pn) ∧ N5 < w9.heap.size ∧ N8 < w9.heap.size) :=
          ⟨hs9, rangeAt_below HS8.out.2.1 hb9 HS8.out.2.2.2.1, rangeAt_below HS8.out.2.2.1 hb9 HS8.out.2.2.2.2, Nat.lt_of_lt_of_le HS8.out.2.2.2.1 hb9.size, Nat.lt_of_lt_of_le HS8.out.2.2.2.2 hb9.size⟩
        clear hs9 hb9
        by_cases hkK : k < K
        · have hkK' : (k : Int) < (K : Int) := by omega
          have hkK2 : ¬ (K : Int) ≤ (k : Int) := by omega
          rw [if_pos hkK]
          go_wp2_with fail
          go_roundg (n - (k + 1))
          case measure => omega
          case rel => exact ⟨k + 1, F6, Dn, by simp, by omega, HS9.out.1, HSP.out⟩
        · have hkK' : ¬ (k : Int) < (K : Int) := by omega
          have hkK2 : (K : Int) ≤ (k : Int) := by omega
          rw [if_neg hkK]
          go_wp2_with fail
          refine (ses_code HS9.out.1 10).mono ?_
          rintro e w10 ⟨rfl, hs10, hb10⟩
          have e1 : (pn == pw) = true := by rw [HPN.out hkK]; simp
          have r1 := rangeAt_below HS9.out.2.1 hb10 HS9.out.2.2.2.1
          have r2 := rangeAt_below HS9.out.2.2.1 hb10 HS9.out.2.2.2.2
          have y1 := isPg r1 hp64
          have y2 := pgAt_eq r1 hp64
          have y3 := isPg r2 hn64
          have y4 := pgAt_eq r2 hn64
          have HSF := soft_any hs10.dsk
          rw [HLN2.out hkK] at HSF
          have HSF := Lib.hid HSF
          have HS10 := Lib.hid hs10
          clear hs10 hb10 r1 r2
          go_wp2_with fail
          refine HSF.out.mono ?_
          rintro e w11 ⟨rfl, rfl⟩
          go_wp2_with fail
          go_roundg (n - (k + 1))
          case measure => omega
          case rel => exact ⟨k + 1, F6, Dn, by simp, by omega, HS10.out, HSP.out⟩
      · have hlt' : ¬ (k : Int) < (n : Int) := by omega
        have q1 := isPv_agg zpg_len
        go_wp2_with fail
        refine (read_nil 0 wr).mono ?_
        rintro e w4 ⟨rfl, hb4⟩
        have q2 := there_zp w4 37
        have q3 := set_zp (w := w4) (N := w4.heap.size) rfl (t := 37) zpg_len
        have hb5 : Below w4.heap.size w4 (w4.alloc (.cells (cellsB zpg).toArray 37)) := (Below.refl _ _).alloc (Nat.le_refl _) _
        have HS5 := Lib.hid ((HS.out.1.keep hb4).keep hb5)
        clear hb4 hb5
        go_wp2_with fail
        refine (crash_nil 1 _).mono ?_
        rintro e w5 ⟨rfl, rfl⟩
        clear q2 q3
        generalize w4.alloc (.cells (cellsB zpg).toArray 37) = w5 at *
        generalize w4.heap.size = N5 at *
        go_wp2_with fail
        refine (up_nil _).mono ?_
        rintro e w6 ⟨rfl, rfl⟩
        go_wp2_with fail
        refine (budget_nil 3 _).mono ?_
        rintro e w6 ⟨rfl, rfl⟩
        go_wp2_with fail
        refine (ses_code HS5.out 0).mono ?_
        rintro e w6 ⟨rfl, hs6, _⟩
        have HS6 := Lib.hid hs6
        clear hs6
        go_wp2_with fail
        refine (ses_flush HS6.out HBT.out).mono ?_
        rintro e w7 ⟨rfl, F7, hs7, _⟩
        have HS7 := Lib.hid hs7
        clear hs7
        rw [HS.out.2.down, show errV (if false = true then 11 else 0) = errV 0 from rfl]
        go_wp2_with fail
        refine (ses_code HS7.out 0).mono ?_
        rintro e w8 ⟨rfl, hs8, _⟩
        have HS8 := Lib.hid hs8
        clear hs8
        go_wp2_with fail
        refine (ses_code HS8.out 1).mono ?_
        rintro e w9 ⟨rfl, hs9, _⟩
        have HS9 := Lib.hid hs9
        clear hs9
        go_wp2_with fail
        refine (write_nil 0 zpg w9).mono ?_
        rintro e w10 ⟨rfl, hb10⟩
        have HS10 := Lib.hid (HS9.out.keep hb10)
        clear hb10
        go_wp2_with fail
        refine (ses_code HS10.out 1).mono ?_
        rintro e w11 ⟨rfl, hs11, _⟩
        have HS11 := Lib.hid hs11
        clear hs11
        go_wp2_with fail
        refine (flush_nil w11).mono ?_
        rintro e w12 ⟨rfl, rfl⟩
        go_wp2_with fail
        refine (ses_code HS11.out 1).mono ?_
        rintro e w12 ⟨rfl, hs12, _⟩
        have HS12 := Lib.hid hs12
        clear hs12
        go_wp2_with fail
        refine (size_nil w12).mono ?_
        rintro e w13 ⟨rfl, rfl⟩
        go_wp2_with fail
        refine (soft_nil w12).mono ?_
        rintro e w13 ⟨rfl, rfl⟩
        go_wp2
        go_ret
        exact ⟨rfl, HS12.out.below⟩
end Go.Proofs.YtgjakhfmjnpkcaaDoor
