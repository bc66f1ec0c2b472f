/-
  Contracts of the landed disk's Crash, of a disk and of nil. Conditions: as each says.
-/
import Derived.Test.YtgjakhfmjnpkcaaDoorS5Flush
import Derived.Laws.BitsLemmas
namespace Go.Proofs.YtgjakhfmjnpkcaaDoor
open Go.RowKit Go.Maps

theorem wraps_u64 (n : Int) (h₀ : 0 ≤ n) (h₁ : n < 2 ^ 64) : IntKind.u64.wrap n = n := by rw [IntKind.wrap_u64]; omega
theorem u64_and1 (x : Int) (h₀ : 0 ≤ x) (h₁ : x ≤ 18446744073709551615) : bits .and .u64 x 1 = x % 2 := bits_mask .u64 64 (by decide) wraps_u64 1 (by decide) x h₀ (by omega)
theorem bit_test (m k : Int) (h0 : 0 ≤ m) (h1 : m ≤ 18446744073709551615) : (bits .and .u64 (m / 2 ^ k.toNat) 1 == 1) = bitOn m k := by
  have hp : (0 : Int) < 2 ^ k.toNat := Int.pow_pos (by decide)
  rw [u64_and1 _ (Int.ediv_nonneg h0 (Int.le_of_lt hp)) (Int.le_trans (Int.ediv_le_self _ h0) h1)]
  rfl
/-- What a crash leaves at a sector, where nothing may be firm yet. -/
def crsO (m : Int) (l : List WrL) (o : Option PgL) : Option PgL := l.foldl (fun o y => if bitOn m y.1 then some y.2 else o) o
theorem crsO_snoc (m : Int) (l : List WrL) (x : WrL) (o : Option PgL) : crsO m (l ++ [x]) o = if bitOn m x.1 then some x.2 else crsO m l o := by simp [crsO]
theorem crsO_getD (m : Int) (z : PgL) : ∀ (l : List WrL) (o : Option PgL), (crsO m l o).getD z = crs m l (o.getD z)
  | [], _ => rfl
  | x :: r, o => by
    show (crsO m r (if bitOn m x.1 then some x.2 else o)).getD z = crs m r (if bitOn m x.1 then x.2 else o.getD z)
    rw [crsO_getD m z r]
    split <;> rfl
theorem crsO_len (m : Int) : ∀ (l : List WrL) (o : Option PgL), (∀ x ∈ l, x.2.length = 64) → (∀ p, o = some p → p.length = 64) → ∀ p, crsO m l o = some p → p.length = 64
  | [], _, _, ho, p, h => ho p h
  | x :: r, o, hl, ho, p, h => crsO_len m r (if bitOn m x.1 then some x.2 else o) (fun y hy => hl y (List.mem_cons_of_mem _ hy)) (fun q hq => by
      split at hq
      · injection hq with hq
        rw [← hq]
        exact hl x List.mem_cons_self
      · exact ho q hq) p h
attribute [local go_sem ↓] ldw_pg stw_pg ldw_wr stw_wr alw_wr alw_pg
attribute [local go_sem] isPgV_ptr pgAtV_ptr thereV_ptr setV_ptr cellsV_agg isWrV_ptr wrAtV_ptr thereW_ptr cellsV_wr
set_option maxRecDepth 10000 in
theorem crash_nil (m : Int) (w : World) : Calls Tryd.prog 14 #[.pointer none, .int .u64 m] w fun e w' => e = .returned (.tuple #[]) ∧ w = w' := by
  go_enter Tryd.func14, Tryd.ntmps14
  go_wp2
  first | go_end0 | refine bodyPost_ret (results_none rfl _ _ _) rfl ?_
  exact ⟨rfl, rfl⟩
/-- What a crash has made firm so far. -/
structure CrSt (w : World) (D : DskV) (mf ms r : Nat) (ff : Int → Option PgL) (fs : Int → Option Value) (m : Int) (left : Int → Bool) (wx : World) : Prop where
  rg : RgOf Tryd.prog 3 wx ms r 2048 fs left
  firm : MapOf Tryd.prog 3 wx mf 2048 (fun i => (ffL (fun i => crsO m (sftOf D.soft i) (ff i)) ff fs left i).map pgv)
  fr : Fr (· = mf) w wx
/-- The same amid a sector's writes. -/
structure CrIn (w : World) (D : DskV) (mf ms r : Nat) (ff : Int → Option PgL) (fs : Int → Option Value) (m : Int) (left : Int → Bool) (x : Int) (k rl : Nat) (wx : World) : Prop where
  rg : RgOf Tryd.prog 3 wx ms r 2048 fs (fun z => left z && !(z == x))
  firm : MapOf Tryd.prog 3 wx mf 2048 (fun z => (if z = x then crsO m ((sftOf D.soft x).take k) (ff x) else ffL (fun i => crsO m (sftOf D.soft i) (ff i)) ff fs left z).map pgv)
  fr : Fr (· = mf) w wx
  rl : wx.rangeLeft ms r = rl
theorem CrIn.grow {w wx w2 : World} {D : DskV} {mf ms r : Nat} {ff : Int → Option PgL} {fs : Int → Option Value} {m : Int} {left : Int → Bool} {x : Int} {k k' rl : Nat} (h : CrIn w D mf ms r ff fs m left x k rl wx) (hb : Below wx.heap.size wx w2) (hk : crsO m ((sftOf D.soft x).take k') (ff x) = crsO m ((sftOf D.soft x).take k) (ff x)) : CrIn w D mf ms r ff fs m left x k' rl w2 := by
  have h1 := h.rg.of_blocks (w' := w2) (hb.block ms h.rg.map.lt) (hb.block r h.rg.lt)
  exact ⟨h1.1, by rw [hk]; exact h.firm.below hb h.firm.lt, h.fr.trans (Fr.of_below hb) fun j hj => .inl hj, h1.2.trans h.rl⟩
theorem CrIn.put {w w1 w2 : World} {F : Nat → Prop} {b : Nat} {D : DskV} {mf ms r nf ns : Nat} {ff : Int → Option PgL} {fs : Int → Option Value} (h : DskIn w F b D mf ms nf ns ff fs) {m : Int} {left : Int → Bool} (hr : w.heap.size ≤ r) {x : Int} {v : Value} (hx : fs x = some v) {k rl : Nat} {y : WrL} (hy : (sftOf D.soft x)[k]? = some y) (hbit : bitOn m y.1 = true)
    (hc : CrIn w D mf ms r ff fs m left x k rl w1) (hb : Below w1.heap.size w1 w2) :
    ∃ w3, (Instr.mapUpdate 58 (.map (some mf)) (.int .i64 x) (.agg (cellsB y.2).toArray)).run Tryd.prog w2 = .ok () w3 ∧ Hid (CrIn w D mf ms r ff fs m left x (k + 1) rl w3) ∧ w3.cell? ⟨b, 3, none⟩ = some (.map (some mf)) ∧ w2.grownBy w3 (some mf) := by
  have hxi := h.softIn x (by rw [hx]; exact Option.some_ne_none _)
  have hc2 := hc.grow hb rfl
  obtain ⟨w3, h1, h2, h3⟩ := firm_put h.ok hc2.firm (fun j hj => by
    by_cases e : j = x
    · rw [e]; exact hxi
    · have hj2 : ffL (fun i => crsO m (sftOf D.soft i) (ff i)) ff fs left j ≠ none := fun e2 => hj (by rw [if_neg e, e2]; rfl)
      unfold ffL at hj2
      split at hj2
      · rename_i hc
        exact h.softIn j (fun e => by rw [e] at hc; simp at hc)
      · exact h.firmIn j hj2) hxi.1 hxi.2 (pgv y.2)
  have hfr3 : Fr (· = mf) w w3 := hc2.fr.trans (Fr.of_grown (F := (· = mf)) h3 fun k hk => (Option.some.inj hk).symm) fun j hj => .inl hj
  have hb3 := hc2.rg.of_blocks (w' := w3) (h3.block ms hc2.rg.map.lt (fun e => h.ne (Option.some.inj e).symm)) (h3.block r hc2.rg.lt (fun e => by
    have e := Option.some.inj e
    have := h.lt mf h.inf
    omega))
  refine ⟨w3, h1, ⟨hb3.1, ?_, hfr3, hb3.2.trans hc2.rl⟩, hfr3.cell h.c3 h.ne_bf, h3⟩
  have e : (fun z => if z = x then some (pgv y.2) else (if z = x then crsO m ((sftOf D.soft x).take k) (ff x) else ffL (fun i => crsO m (sftOf D.soft i) (ff i)) ff fs left z).map pgv) = fun z => (if z = x then crsO m ((sftOf D.soft x).take (k + 1)) (ff x) else ffL (fun i => crsO m (sftOf D.soft i) (ff i)) ff fs left z).map pgv := by
    funext z
    by_cases ez : z = x
    · rw [if_pos ez, if_pos ez, List.take_add_one, hy]
      show _ = (crsO m ((sftOf D.soft x).take k ++ [y]) (ff x)).map pgv
      rw [crsO_snoc, if_pos hbit]
      rfl
    · rw [if_neg ez, if_neg ez, if_neg ez]
  rw [← e]
  exact h2

set_option maxRecDepth 10000 in
set_option maxHeartbeats 1000000 in
theorem crash_any {w : World} {F : Nat → Prop} {b : Nat} {D : DskV} (h : IsDsk w F b D) (m : Int) (hm0 : 0 ≤ m) (hm1 : m ≤ 18446744073709551615) : Calls Tryd.prog 14 #[.pointer (some ⟨b, 0, none⟩), .int .u64 m] w fun e w' => e = .returned (.tuple #[]) ∧ ∃ F', IsDsk w' F' b (D.crash m) ∧ Fr F w w' ∧ ∀ k, F' k → F k ∨ w.heap.size ≤ k := by
  obtain ⟨mf, ms, nf, ns, ff, fs, h⟩ := h
  have c4 := h.c4
  have hI := Tryd.underlying3
  have hst : MapOf Tryd.prog 3 w ms 2048 fs := h.soft.tight hI 2048 fun j hj => by
    have h1 := h.softIn j hj
    have h2 := h.ok.hi
    omega
  have hft : MapOf Tryd.prog 3 w mf 2048 (fun i => (ff i).map pgv) := h.firm.tight hI 2048 fun j hj => by
    have h1 := h.firmIn j (fun e => hj (by rw [e]; rfl))
    have h2 := h.ok.hi
    omega
  have H := Lib.hid h
  have HS := Lib.hid hst
  have HF := Lib.hid hft
  have HI := Lib.hid hI
  clear h hst hft hI
  go_enter Tryd.func14, Tryd.ntmps14
  go_wp2_with (first
    | (at_range; refine wl_range_of _ rfl _ 59 rfl 3 64 HI.out Tryd.underlying59 ms 2048 fs rfl HS.out ?_; intro w0 hrg0 hg0 hs0)
    | fail)
  have HR0 := Lib.hid hrg0
  have HG0 := Lib.hid hg0
  clear hrg0 hg0 hs0 c4
  go_frame
  go_loopg [4, 5, 7] (w0.rangeLeft ms w.heap.size) (fun gg _ _ _ wx => ∃ left, Hid (CrSt w D mf ms w.heap.size ff fs m left wx) ∧ Hid (wx.rangeLeft ms w.heap.size = gg))
  case atStart =>
    refine ⟨fun i => (fs i).isSome, ⟨HR0.out, ?_, ?_⟩, rfl⟩
    · rw [ffL_start]
      exact HF.out.kept HG0.out (fun e => by cases e)
    · exact Fr.of_grown HG0.out fun k hk => by cases hk
  case round =>
    clear HR0 HG0
    obtain ⟨left, HL, HGG⟩ := hrel
    go_wp2_with (first
      | (at_next; refine wl_next_of _ rfl _ rfl 3 HI.out ms w.heap.size 2048 fs left rfl HL.out.rg ?_ ?_)
      | fail)
    · intro hl0
      have HL0 := Lib.hid hl0
      clear hl0
      have hm2 := HL.out.firm
      have hbk := HL.out.fr.block b (H.out.lt b H.out.inb) H.out.ne_bf
      have c4 : wr.cell? ⟨b, 4, none⟩ = some (.map (some ms)) := by simpa [World.cell?, hbk] using H.out.c4
      have c5 : wr.cell? ⟨b, 5, none⟩ = some (.int .i64 (D.soft.length : Int)) := by simpa [World.cell?, hbk] using H.out.c5
      have f4 : wr.frozen? ⟨b, 4, none⟩ = false := by simpa [World.frozen?, hbk] using H.out.f4
      have f5 : wr.frozen? ⟨b, 5, none⟩ = false := by simpa [World.frozen?, hbk] using H.out.f5
      have HD := Lib.hid (drop_raw c4 f4 c5 f5)
      have hlen := HL.out.fr.size
      have hend := DskIn.dropped (D' := { D.crash m with down := D.down }) H.out HL.out.fr hm2 (fun i => ?f1) (fun i hi => ?f2) (fun i l hi => ?f3) rfl rfl rfl rfl
      case f1 =>
        show (ffL (fun i => crsO m (sftOf D.soft i) (ff i)) ff fs left i).getD zpg = lst (kept m D.soft) i (D.firm i)
        rw [← crs_kept]
        unfold ffL
        split
        · rw [crsO_getD, H.out.firmAt i]
        · rename_i hc
          have hfn : fs i = none := by
            cases hf : fs i with
            | none => rfl
            | some v =>
              have h1 := H.out.softIn i (by rw [hf]; exact Option.some_ne_none _)
              have h2 := HL0.out i (wf_of H.out.ok h1.1 h1.2)
              rw [hf, h2] at hc
              simp at hc
          have h3 : sftOf D.soft i = [] := by
            have := H.out.softAt i
            rw [hfn] at this
            exact this
          rw [H.out.firmAt i, h3]
          rfl
      case f2 =>
        unfold ffL at hi
        split at hi
        · rename_i hc
          exact H.out.softIn i (fun e => by rw [e] at hc; simp at hc)
        · exact H.out.firmIn i hi
      case f3 =>
        have hfl : ∀ l, ff i = some l → l.length = 64 := fun l hl => by
          have h5 := H.out.firmAt i
          rw [hl] at h5
          have h6 := H.out.ok.firm i
          rw [← h5] at h6
          exact h6
        unfold ffL at hi
        split at hi
        · exact crsO_len m _ _ (H.out.s64 i) hfl l hi
        · exact hfl l hi
      have HE := Lib.hid hend
      clear hbk c4 c5 f4 f5 hm2 hend
      go_wp2_with fail
      refine HD.out.mono ?_
      rintro e w2 ⟨rfl, hw2⟩
      have HW2 := Lib.hid hw2
      rw [← HW2.out] at HE
      have c1 := HE.out.1.c1
      have f1 := HE.out.1.f1
      clear hw2
      go_wp2
      first | go_end0 | refine bodyPost_ret (results_none rfl _ _ _) rfl ?_
      refine ⟨rfl, _, ⟨_, _, _, _, _, _, HE.out.1.set (D' := D.crash m) ?_ rfl rfl rfl rfl⟩, HE.out.2.setCell (.inl H.out.inb) _, fun k hk => hk.imp_right fun e => by omega⟩
      obtain ⟨a1, a2, a3, a4, a5, a6, a7⟩ := HE.out.1.ok
      exact ⟨a1, a2, a3, a4, a5, a6, a7⟩
    · intro x v w1 hwx hlx hfx hrg1 hlt hg1 hs1 hen
      have hsa := H.out.softAt x
      rw [hfx] at hsa
      obtain ⟨hne, g, cap, rfl, hFg, hown⟩ := hsa
      have hro := H.out.row hfx
      have hfr1 : Fr (· = mf) w w1 := HL.out.fr.trans (Fr.of_grown (F := fun k => k = w.heap.size) hg1 fun k hk => (Option.some.inj hk).symm) fun j hj => .inr (by omega)
      have HC0 : Hid (CrIn w D mf ms w.heap.size ff fs m left x 0 (w1.rangeLeft ms w.heap.size) w1) := by
        refine ⟨hrg1, ?_, hfr1, rfl⟩
        have e : (fun z => (if z = x then crsO m ((sftOf D.soft x).take 0) (ff x) else ffL (fun i => crsO m (sftOf D.soft i) (ff i)) ff fs left z).map pgv) = fun z => (ffL (fun i => crsO m (sftOf D.soft i) (ff i)) ff fs left z).map pgv := by
          funext z
          by_cases e : z = x
          · rw [if_pos e, e, ffL_same hlx]
            rfl
          · rw [if_neg e]
        rw [e]
        exact HL.out.firm.kept hg1 (fun e => by have := Option.some.inj e; have := H.out.lt mf H.out.inf; omega)
      have HOW := Lib.hid hown
      have HLT := Lib.hid hlt
      have HFX := Lib.hid hfx
      have HRO := Lib.hid hro
      have HFG := Lib.hid hFg
      obtain ⟨rl, hrl⟩ : ∃ rl, rl = w1.rangeLeft ms w.heap.size := ⟨_, rfl⟩
      rw [← hrl] at HC0 HLT
      obtain ⟨n, hn⟩ : ∃ n, (sftOf D.soft x).length = n := ⟨_, rfl⟩
      rw [hn] at hen ⊢
      have hnf : n ≤ 1000 := by have := sftOf_le D.soft x; have := H.out.ok.few; omega
      have HN := Lib.hid hn
      clear hown hfr1 hro hrg1 hlt hg1 hs1 hlx hfx hwx hFg hne hrl hn
      go_wp2_with fail
      go_loopg [7, 22] n (fun g2 _ v22 wx => ∃ k : Nat, v22 = .int .i64 (k : Int) ∧ k + g2 = n ∧ Hid (CrIn w D mf ms w.heap.size ff fs m left x k rl wx))
      case atStart => exact ⟨0, rfl, by omega, HC0⟩
      case round =>
        clear HC0
        obtain ⟨k, rfl, hk, HC⟩ := hrel
        by_cases hlt : k < n
        · have hlt' : (k : Int) < (n : Int) := by omega
          have hw1 : IntKind.i64.wrap ((k : Int) + 1) = (k : Int) + 1 := IntWalk.i64_in _ (by omega)
          obtain ⟨y, hy⟩ : ∃ y, (sftOf D.soft x)[k]? = some y := ⟨_, List.getElem?_eq_getElem (by have := HN.out; omega)⟩
          have hym := List.mem_of_getElem? hy
          have hy64 := H.out.s64 x y hym
          have hyb := (sftOf_mem D.soft x y hym).1
          have hown1 := owns_block HOW.out (HC.out.fr.block g (H.out.lt g HFG.out) HRO.out.2.1)
          obtain ⟨q1, q2⟩ := row_wr (H.out.s64 x) hown1 hy
          have q3 := isWv_agg hy64
          have q4 := there_zw wr 67
          have q5 := set_zw (w := wr) (N := wr.heap.size) rfl (t := 67) hy64
          have hrg := range_cells wr wr.heap.size rfl (wCells y) 67
          have q6 := bit_in hrg
          have HPI := Lib.hid (page_in hrg)
          have HY := Lib.hid hy
          clear hown1 hym hrg hy
          have hbt := bit_test m y.1 hm0 hm1
          have hb2 : Below wr.heap.size wr (wr.alloc (.cells (wCells y).toArray 67)) := (Below.refl _ _).alloc (Nat.le_refl _) _
          have HB2 := Lib.hid hb2
          clear hb2
          cases hbo : bitOn m y.1 with
          | false =>
            rw [hbo] at hbt
            have HBO := Lib.hid hbo
            clear hbo
            go_wp2_with fail
            go_roundg (gk - 1)
            case measure => omega
            case rel => exact ⟨k + 1, by simp, by omega, HC.out.grow HB2.out (by
              rw [List.take_add_one, HY.out]
              show crsO m ((sftOf D.soft x).take k ++ [y]) (ff x) = _
              rw [crsO_snoc, HBO.out]
              rfl)⟩
          | true =>
            rw [hbo] at hbt
            have hb3 : Below wr.heap.size wr (wr.alloc (.cells (wCells y).toArray 67)).drew := HB2.out.drew
            obtain ⟨w3, hrun, HC3, hc3, hg3⟩ := CrIn.put (w2 := (wr.alloc (.cells (wCells y).toArray 67)).drew) H.out (Nat.le_refl _) HFX.out HY.out hbo HC.out hb3
            have c3 : (wr.alloc (.cells (wCells y).toArray 67)).cell? ⟨b, 3, none⟩ = some (.map (some mf)) := (HC.out.grow (k' := k) HB2.out rfl).fr.cell H.out.c3 H.out.ne_bf
            have p1 := Tryd.underlying37
            have p2 : (Tryd.prog.info? 37).map (·.size) = some (cellsB y.2).length := by rw [pgSize, cellsB_len, hy64]
            have hpi : (wr.alloc (.cells (wCells y).toArray 67)).rangeAt wr.heap.size 1 (cellsB y.2) := by simpa using HPI.out
            have hpi3 : w3.rangeAt wr.heap.size 1 (cellsB y.2) := fun j v hv => by
              have hblk := hg3.block wr.heap.size (by simp) (fun e => by
                have e := Option.some.inj e
                have h1 := H.out.lt mf H.out.inf
                have h2 := HC.out.fr.size
                omega)
              have := hpi j v hv
              rw [World.cell?_of_block (w := (wr.alloc (.cells (wCells y).toArray 67)).drew) hblk]
              exact this
            clear hbo hb3 hg3
            go_wp2_with fail
            clear q1 q2 q3 q4 q5 q6 hbt hen
            generalize hw2 : wr.alloc (.cells (wCells y).toArray 67) = w2 at *
            generalize hN : wr.heap.size = N at *
            clear hw2 hN
            go_region_held3 (fun W => W.cell? ⟨b, 3, none⟩ = some (.map (some mf)) ∧ W.rangeAt N 1 (cellsB y.2))
              (first | (exact ⟨c3, hpi⟩) | (exact ⟨hc3, hpi3⟩))
              (fail)
            go_wp2_with fail
            go_roundg (gk - 1)
            case measure => omega
            case rel => exact ⟨k + 1, by simp, by omega, HC3⟩
        · have hlt' : ¬ (k : Int) < (n : Int) := by omega
          have hkn : k = n := by omega
          have HCS : Hid (CrSt w D mf ms w.heap.size ff fs m (fun z => left z && !(z == x)) wr) := by
            refine ⟨HC.out.rg, ?_, HC.out.fr⟩
            have h1 := HC.out.firm
            rw [List.take_of_length_le (by have := HN.out; omega)] at h1
            rw [← ffL_next (new := fun i => crsO m (sftOf D.soft i) (ff i)) (ff := ff) HFX.out]
            exact h1
          have HRL : Hid (wr.rangeLeft ms w.heap.size = rl) := HC.out.rl
          clear HC hkn
          go_wp2_with fail
          go_roundg rl
          case measure =>
            have h1 := HLT.out
            have h2 := HGG.out
            omega
          case rel => exact ⟨_, HCS, HRL⟩
end Go.Proofs.YtgjakhfmjnpkcaaDoor
