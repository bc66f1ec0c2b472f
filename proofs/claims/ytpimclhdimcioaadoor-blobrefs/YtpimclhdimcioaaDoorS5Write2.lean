/-
  The contract of the landed disk's Write where the write goes well. Conditions: as it says.
-/
import Derived.Test.YtpimclhdimcioaaDoorS5Write
namespace Go.Proofs.YtpimclhdimcioaaDoor
open Go.RowKit Go.Maps

attribute [local go_sem ↓] ldw_pg stw_pg ldw_wr stw_wr alw_wr alw_pg bdw_wr bsw_wr
attribute [local go_sem] isPgV_ptr pgAtV_ptr thereV_ptr setV_ptr cellsV_agg isWrV_ptr wrAtV_ptr thereW_ptr cellsV_wr bldW_agg sl1_agg

theorem infoWr : (Tryd.prog.info? 70).map (fun i => (i.zero, i.size, i.bytes)) = some (some (.agg zwc), 65, 72) := by kernel_rfl
/-- One write more at a row's end, as a step of a region that draws. -/
theorem step_app_wr {w : World} {ops : Array Oper} {o : Oper} {a : Act} {K : Act → World → Prop} {Q : Exit → Act → World → Prop} {E : Prop} (hgd : o.guard = none) (s x : Operand)
    (ho : o.op = .call { callee := .builtin .append, args := #[s, x], argTypes := #[67, 67] }) (v : Value) (l : List WrL) (y : WrL) (h64 : y.2.length = 64) (hf : l.length ≤ 1000) (M : Nat)
    (hs : a.eval s = v) (hx : a.eval x = .slice (some ⟨M, 0, none⟩) 1 1) (hown : w.ownsRow 0 70 65 v l.length (l.flatMap wCells)) (hM : w.rangeAt M 0 (wCells y))
    (h : ∀ g' cap' w', w'.ownsRow 0 70 65 (.slice (some ⟨g', 0, none⟩) (l ++ [y]).length cap') (l ++ [y]).length ((l ++ [y]).flatMap wCells) → w.grownBy w' v.ownBlock → (v.ownBlock = some g' ∨ g' = w.heap.size) → K (a.put o.dst (.slice (some ⟨g', 0, none⟩) (l.length + 1) cap')) w') :
    if Region.wanted o (yielded ops a.tmps) = true then Oper.wp Tryd.prog o a w K Q else E := by
  have hw : Region.wanted o (yielded ops a.tmps) = true := by simp [Region.wanted, hgd]
  rw [if_pos hw]
  obtain ⟨iW, hiW, hq⟩ := Option.map_eq_some_iff.1 infoWr
  simp only [Prod.mk.injEq] at hq
  have hyl := wCells_len h64
  obtain ⟨v', w', hr, h2, h3, _, h5⟩ := run_append_own_at (P := Tryd.prog) w 0 67 o.type 70 iW (.agg zwc) 65 72 Tryd.underlying67 hiW hq.1 hq.2.1 hq.2.2 zwc_size (by decide) v l.length _ hown ⟨M, 0, none⟩ 1 1 (wCells y) (by rw [hyl]) (fun j u hu => by rw [Addr.add_lit]; exact hM j u hu) (wCells_one y) (by unfold maxLen; omega) (by omega) (Nat.zero_le _)
  have e1 : (l ++ [y]).length = l.length + 1 := by simp
  have e2 : (l ++ [y]).flatMap wCells = l.flatMap wCells ++ wCells y := by simp
  have h2' := h2
  obtain ⟨_, ⟨rfl, h6⟩ | ⟨g', cap', cur, rfl, _⟩⟩ := h2'
  · omega
  unfold Oper.wp execOp
  simp only [ho, resolve, invoke, builtin, Sem.run_bind, Sem.run_pure, Result.andThen_ok, List.map_toArray, List.map_cons, List.map_nil, hs, hx, hr]
  have := h g' cap' w' (by rw [e1, e2]; exact h2) h3 (by
    rcases h5 with h5 | h5
    · exact .inl h5.symm
    · right
      injection h5)
  exact this

/-- What Write's last statement but one leaves. -/
def Wrote (wv : World) (D : DskV) (i : Int) (p : PgL) (ms : Nat) (fs : Int → Option Value) (w7 : World) : Prop :=
  ∃ (g' cap' : Nat) (w6 : World), Fr (fun k => (softV (fs i)).ownBlock = some k) wv w6 ∧ w6.ownsRow 0 70 65 (.slice (some ⟨g', 0, none⟩) (sftOf (D.soft ++ [(i, p)]) i).length cap') (sftOf (D.soft ++ [(i, p)]) i).length ((sftOf (D.soft ++ [(i, p)]) i).flatMap wCells)
    ∧ ((softV (fs i)).ownBlock = some g' ∨ wv.heap.size ≤ g') ∧ MapOf Tryd.prog 3 w7 ms (2048 + 1) (fun x => if x = i then some (.slice (some ⟨g', 0, none⟩) (sftOf (D.soft ++ [(i, p)]) i).length cap') else fs x) ∧ w6.grownBy w7 (some ms)
/-- The map's store behind the append. -/
theorem put_step {wv w6 : World} {F : Nat → Prop} {b : Nat} {D : DskV} {mf ms nf ns : Nat} {ff : Int → Option PgL} {fs : Int → Option Value} (h : DskIn wv F b D mf ms nf ns ff fs) {i : Int} {p : PgL} (hi0 : 0 ≤ i) (hi1 : i < D.size) {bit : Int} (hbit : bit = ((D.soft.length % 64 : Nat) : Int)) {v : Value} (hv : v.ownBlock = (softV (fs i)).ownBlock)
    (hF6 : Fr (fun k => (softV (fs i)).ownBlock = some k) wv w6) {g' cap' : Nat} (hg' : v.ownBlock = some g' ∨ wv.heap.size ≤ g')
    (ho6 : w6.ownsRow 0 70 65 (.slice (some ⟨g', 0, none⟩) ((sftOf D.soft i).filter (kp bit) ++ [(bit, p)]).length cap') ((sftOf D.soft i).filter (kp bit) ++ [(bit, p)]).length (((sftOf D.soft i).filter (kp bit) ++ [(bit, p)]).flatMap wCells))
    {G : Prop} (k : ∀ w7, (Instr.mapUpdate 59 (.map (some ms)) (.int .i64 i) (.slice (some ⟨g', 0, none⟩) (((sftOf D.soft i).filter (kp bit)).length + 1) cap')).run Tryd.prog w6 = .ok () w7 → Hid (Wrote wv D i p ms fs w7) → Fr (fun k => (softV (fs i)).ownBlock = some k ∨ k = ms) wv w7 → G) : G := by
  have hL : sftOf (D.soft ++ [(i, p)]) i = (sftOf D.soft i).filter (kp bit) ++ [(bit, p)] := by
    rw [sftOf_snoc, if_pos rfl, hbit]
    rfl
  have hms : (softV (fs i)).ownBlock ≠ some ms := fun e => by
    have h1 := h.softAt i
    cases hf : fs i with
    | none => rw [hf] at e; cases e
    | some v =>
      rw [hf] at h1 e
      obtain ⟨_, g, cap, rfl, _, _⟩ := h1
      obtain rfl : g = ms := by simpa [softV, Value.ownBlock] using e
      exact (h.row hf).2.2.1 rfl
  have hk := Tryd.underlying3
  have hm6 : MapOf Tryd.prog 3 w6 ms 2048 fs := (h.soft.tight hk 2048 fun j hj => by
    have h1 := h.softIn j hj
    have h2 := h.ok.hi
    omega).of_block (hF6.block ms (h.lt ms h.ins) hms)
  obtain ⟨w7, hrun, hm7, hg7⟩ := hm6.put (t := 59) (e := 67) hk Tryd.underlying59 (by unfold maxLen; omega) (wf_of h.ok hi0 hi1) (.slice (some ⟨g', 0, none⟩) (((sftOf D.soft i).filter (kp bit)).length + 1) cap')
  refine k w7 hrun ⟨g', cap', w6, hF6, by rw [hL]; exact ho6, by rw [← hv]; exact hg', by rw [hL, List.length_append]; exact hm7, hg7⟩ ?_
  exact (hF6.mono fun k hk => .inl (.inl hk)).trans (Fr.of_grown (F := fun k => (softV (fs i)).ownBlock = some k ∨ k = ms) hg7 fun j hj => .inr (Option.some.inj hj).symm) fun j hj => .inl hj

theorem frA {R : Nat → Prop} {wv wD : World} (h : Fr R wv.drew wD) : Fr R wv wD := ⟨h.os, h.tape, h.output, h.size, h.block⟩
theorem frB {R : Nat → Prop} {wv wD : World} {o : Obj} (h : Fr R (wv.drew.alloc o) wD) : Fr R wv wD := ((Fr.refl R wv).drew.alloc o).trans h fun _ hj => .inl hj
theorem range_frB {R : Option Nat} {wv wD : World} {cs : List Value} {t : TypeId} (h : Fr (fun k => R = some k) (wv.drew.alloc (.cells cs.toArray t)) wD) (hR : R ≠ some wv.heap.size) : wD.rangeAt wv.heap.size 0 cs :=
  fun j v hv => h.cell (range_cells wv.drew wv.heap.size rfl cs t j v hv) hR
theorem app_step {wv W w6 : World} {F : Nat → Prop} {b : Nat} {D : DskV} {mf ms nf ns : Nat} {ff : Int → Option PgL} {fs : Int → Option Value} (h : DskIn wv F b D mf ms nf ns ff fs) {i : Int} {p : PgL} (hi0 : 0 ≤ i) (hi1 : i < D.size) {bit : Int} (hbit : bit = ((D.soft.length % 64 : Nat) : Int)) {v : Value} (hv : v.ownBlock = (softV (fs i)).ownBlock)
    (hW : Fr (fun k => (softV (fs i)).ownBlock = some k) wv W) {g' cap' : Nat} (hg6 : W.grownBy w6 v.ownBlock) (hgg : v.ownBlock = some g' ∨ g' = W.heap.size)
    (ho6 : w6.ownsRow 0 70 65 (.slice (some ⟨g', 0, none⟩) ((sftOf D.soft i).filter (kp bit) ++ [(bit, p)]).length cap') ((sftOf D.soft i).filter (kp bit) ++ [(bit, p)]).length (((sftOf D.soft i).filter (kp bit) ++ [(bit, p)]).flatMap wCells))
    {G : Prop} (k : ∀ w7, (Instr.mapUpdate 59 (.map (some ms)) (.int .i64 i) (.slice (some ⟨g', 0, none⟩) (((sftOf D.soft i).filter (kp bit)).length + 1) cap')).run Tryd.prog w6 = .ok () w7 → Hid (Wrote wv D i p ms fs w7) → Fr (fun k => (softV (fs i)).ownBlock = some k ∨ k = ms) wv w7 → Fr (fun k => (softV (fs i)).ownBlock = some k ∨ k = ms) wv w6 → G) : G := by
  have hF6 : Fr (fun k => (softV (fs i)).ownBlock = some k) wv w6 := hW.trans (Fr.of_grown (F := fun k => (softV (fs i)).ownBlock = some k) hg6 fun k hk => by rw [← hv, hk]) fun j hj => .inl hj
  refine put_step h hi0 hi1 hbit hv hF6 (hgg.imp_right fun e => by have := hW.size; omega) ho6 fun w7 h1 h2 h3 => k w7 h1 h2 h3 (hF6.mono fun k hk => .inl (.inl hk))

theorem xbd_wr {d : Option Tmp} {ty : TypeId} {pos : String} {af : Array Edge} {g : Option (Nat × Bool)} {x y : Operand} {a : Act} {w : World} (hx : IsIv (a.eval x)) (hy : IsPv (a.eval y)) :
    (execOp a.eval { dst := d, op := .build 70 #[(0, x), (1, y)], type := ty, pos := pos, after := af, guard := g }).run Tryd.prog w = .ok (.value (bldW (a.eval x) (a.eval y))) w := by
  obtain ⟨n, hn⟩ := hx
  obtain ⟨l, hl, hp⟩ := hy
  have h : (Instr.build 70 #[(0, .int .i64 n), (1, .agg (cellsB l).toArray)]).run Tryd.prog w = .ok (.agg (wCells (n, l)).toArray) w := run_build w 70 _ _ (built_wr n l hl)
  unfold execOp
  simp only [Sem.run_bind, Sem.run_pure, Result.andThen_ok, List.map_toArray, List.map_cons, List.map_nil, hn, hp, bldW_agg, h]
attribute [local go_sem ↓] xbd_wr
set_option maxRecDepth 10000 in
set_option maxHeartbeats 400000 in
theorem write_done {w : World} {F : Nat → Prop} {b : Nat} {D : DskV} (h : IsDsk w F b D) (i : Int) (p : PgL) (hp : p.length = 64) (hy : D.why i = 0) (hbud : D.budget ≠ 0) (hfew : D.soft.length < 1000) :
    Calls Tryd.prog 15 #[.pointer (some ⟨b, 0, none⟩), .int .i64 i, pgv p] w fun e w' => e = .returned .nilIface ∧ ∃ F', IsDsk w' F' b (D.write i p) ∧ Fr F w w' ∧ ∀ k, F' k → F k ∨ w.heap.size ≤ k := by
  have hb1 : Below w.heap.size w (w.alloc (.cells (cellsB p).toArray 40)) := (Below.refl _ _).alloc (Nat.le_refl _) _
  have HR := Lib.hid (reach_any (h.below hb1) i)
  have hpr := range_cells w w.heap.size rfl (cellsB p) 40
  have hltF := h.lt
  obtain ⟨mf, ms, nf, ns, ff, fs, hd⟩ := h.below hb1
  have HP := Lib.hid hpr
  have HB1 := Lib.hid hb1
  have HD := Lib.hid hd
  have HLT := Lib.hid hltF
  have c2 := hd.c2
  have f2 := hd.f2
  rw [hy] at HR
  have h0 : (D.budget == 0) = false := by simpa using hbud
  have hbk := hd.ok.bud
  clear h hb1 hpr hltF hd
  go_enter Tryd.func15, Tryd.ntmps15
  go_wp2_with fail
  refine HR.out.mono ?_
  rintro e w' ⟨rfl, rfl⟩
  rw [show errV 0 = .nilIface from rfl]
  go_upto_if 26 with fail
  go_cut [] from 27 to 33 (fun wc => Hid (DskIn wc F b { D with budget := D.bud } mf ms nf ns ff fs ∧ Fr F w wc ∧ wc.heap.size = w.heap.size + 1 ∧ wc.rangeAt w.heap.size 0 (cellsB p)))
  case first =>
    by_cases hm : D.budget = -1
    · have e1 : (D.budget != -1) = false := by simp [hm]
      have e2 : D.bud = D.budget := by simp [DskV.bud, hm]
      have E2 := Lib.hid e2
      clear e2
      go_wp2_with fail
      go_meet
      refine ⟨?_, Fr.of_below HB1.out, by simp, HP.out⟩
      rw [E2.out]
      exact HD.out
    · have e1 : (D.budget != -1) = true := by simp [hm]
      have e2 : D.bud = D.budget - 1 := by simp [DskV.bud, hm]
      have e3 : IntKind.i64.wrap (D.budget - 1) = D.budget - 1 := IntWalk.i64_in _ (by omega)
      have E2 := Lib.hid e2
      clear e2
      go_wp2_with fail
      go_meet
      refine ⟨?_, (Fr.of_below HB1.out).setCell (.inl HD.out.inb) _, by simp [World.setCell], ?_⟩
      · refine HD.out.set ?_ (by rw [← E2.out]; rfl) rfl rfl rfl
        obtain ⟨a1, a2, a3, a4, a5, a6, a7⟩ := HD.out.ok
        exact ⟨a1, a2, ⟨by show -1 ≤ D.bud; rw [E2.out]; have := h0; omega, by show D.bud ≤ 9223372036854775807; rw [E2.out]; omega⟩, a4, a5, a6, a7⟩
      · exact fun j v hv => (World.cell?_setCell_other _ _ _ _ (fun e => by have := HLT.out b HD.out.inb; injection e with e _; omega)).trans (HP.out j v hv)
  case rest =>
    have HC := hcut
    clear hcut c2 f2 HD HB1 HP hbk h0 HR
    obtain ⟨_, hi0, hi1⟩ := why_zero hy
    have HW1 : Hid (D.write i p = { ({ D with budget := D.bud } : DskV) with soft := ({ D with budget := D.bud } : DskV).soft ++ [(i, p)] }) := rfl
    replace hi1 : i < ({ D with budget := D.bud } : DskV).size := hi1
    replace hfew : ({ D with budget := D.bud } : DskV).soft.length < 1000 := hfew
    generalize ({ D with budget := D.bud } : DskV) = D1 at HC HW1 hi1 hfew
    have HI0 := Lib.hid hi0
    have HI1 := Lib.hid hi1
    clear hi0 hi1
    have c5 := HC.out.1.c5
    obtain ⟨m, hm⟩ : ∃ m, D1.soft.length = m := ⟨_, rfl⟩
    rw [hm] at c5 hfew
    go_upto_region 10 with fail
    obtain ⟨bit, hbit⟩ : ∃ bit : Int, bit = (m : Int) % 64 := ⟨_, rfl⟩
    rw [← hbit]
    obtain ⟨x, hx⟩ : ∃ x, x = w.heap.size := ⟨_, rfl⟩
    obtain ⟨y, hyy⟩ : ∃ y, y = wc.heap.size := ⟨_, rfl⟩
    obtain ⟨wv, hwv⟩ : ∃ wv, wv = wc.alloc (.cells #[.int .i64 bit] 3) := ⟨_, rfl⟩
    rw [← hwv, ← hx, ← hyy]
    have hbv : Below wc.heap.size wc wv := by rw [hwv]; exact (Below.refl _ _).alloc (Nat.le_refl _) _
    have hbc : wv.cell? ⟨y, 0, none⟩ = some (.int .i64 bit) := by rw [hwv, hyy]; simp
    have hsv : wv.heap.size = y + 1 := by rw [hwv, hyy]; simp
    have hsc : y = x + 1 := by rw [hyy, hx]; exact HC.out.2.2.1
    obtain ⟨hd0, hfr0, _, hpr0⟩ := HC.out
    have hd := hd0.keep (w' := wv) (fun k hk => hbv.block k (hd0.lt k hk)) hbv.size
    have hpr : wv.rangeAt x 0 (cellsB p) := by rw [hx]; exact rangeAt_below hpr0 hbv (by omega)
    have hfr : Fr F w wv := hfr0.trans (Fr.of_below (F := F) hbv) fun j hj => .inl hj
    have hi0 := HI0.out
    have hi1 := HI1.out
    have hwf := wf_of hd.ok hi0 hi1
    have hbi : bit = ((D1.soft.length % 64 : Nat) : Int) := by rw [hbit, hm]; simp
    have hltx : ∀ k, F k → k < x := by rw [hx]; exact HLT.out
    have hrowlt : ∀ k, (softV (fs i)).ownBlock = some k → F k := fun k hk => by
      have h1 := hd.softAt i
      cases hf : fs i with
      | none => rw [hf] at hk; cases hk
      | some v =>
        rw [hf] at h1 hk
        obtain ⟨_, g, cap, rfl, hg, _⟩ := h1
        obtain rfl : g = k := by simpa [softV, Value.ownBlock] using hk
        exact hg
    have hrowb : (softV (fs i)).ownBlock ≠ some b := fun e => by
      have h1 := hd.softAt i
      cases hf : fs i with
      | none => rw [hf] at e; cases e
      | some v =>
        rw [hf] at h1 e
        obtain ⟨_, g, cap, rfl, hg, _⟩ := h1
        obtain rfl : g = b := by simpa [softV, Value.ownBlock] using e
        exact (hd.row hf).1 rfl
    obtain ⟨v0, hv0⟩ : ∃ v0, v0 = softV (fs i) := ⟨_, rfl⟩
    have kS : ∀ W, Fr (fun k => (softV (fs i)).ownBlock = some k ∨ k = ms) wv W → W.cell? ⟨b, 4, none⟩ = some (.map (some ms)) ∧ W.cell? ⟨y, 0, none⟩ = some (.int .i64 bit) ∧ W.rangeAt x 0 (cellsB p) := fun W hW => by
      have h1 := hW.cell hd.c4 (fun e => e.elim hrowb hd.ne_bs)
      have h2 := hW.cell hbc (fun e => e.elim (fun e => by have := hltx _ (hrowlt _ e); simp at this; omega) (fun e => by have := hltx _ hd.ins; simp at e; omega))
      have h3 : W.rangeAt x 0 (cellsB p) := fun j v hv => hW.cell (hpr j v hv) (fun e => e.elim (fun e => by have := hltx _ (hrowlt _ e); simp at this) (fun e => by have := hltx _ hd.ins; simp at e; omega))
      exact ⟨h1, h2, h3⟩
    have kL : ∀ W, Below wv.heap.size wv W → (Instr.lookup 59 (.map (some ms)) (.int .i64 i) false).run Tryd.prog W = .ok v0 W := fun W hW => by
      rw [hv0]
      exact ((hd.soft.below hW (hd.lt ms hd.ins)).look (t := 59) (e := 67) Tryd.underlying3 Tryd.underlying59 (zeroMS _) hwf).1
    have kD : ∀ W, Below wv.heap.size wv W → Calls Tryd.prog 30 #[v0, .func (.func 29) #[] #[.pointer (some ⟨y, 0, none⟩)]] W fun e w' => ∃ v, e = .returned v ∧ Fr (fun k => (softV (fs i)).ownBlock = some k) W w' ∧ v.ownBlock = (softV (fs i)).ownBlock ∧ w'.ownsRow 0 70 65 v ((sftOf D1.soft i).filter (kp bit)).length (((sftOf D1.soft i).filter (kp bit)).flatMap wCells) := fun W hW => by
      rw [hv0]
      exact del_both ((hd.softAt i).keep (fun _ hk => hk) fun g n c ex => hW.block g (hd.lt g (hd.row ex).2.2.2)) (hd.s64 i) (by have := sftOf_le D1.soft i; omega) ((hW.cell (p := ⟨y, 0, none⟩) (by simp; omega)).trans hbc) (fun e => by have := hltx _ (hrowlt _ e); omega)
    have l1 := kL wv.drew (Below.refl _ _).drew
    have l3 := fun o => kL (wv.alloc o).drew ((Below.refl _ _).alloc (Nat.le_refl _) o).drew
    have l2 := fun o => kL (wv.drew.alloc o) ((Below.refl _ _).drew.alloc (by simp) o)
    have q3 := isPv_agg hp
    have q1 := Tryd.underlying40
    have q2 : (Tryd.prog.info? 40).map (·.size) = some (cellsB p).length := by rw [pgSize, cellsB_len, hp]
    have q4 := isIv_int bit
    have q5 := isWv_agg (x := (bit, p)) hp
    have HKS := Lib.hid kS
    have HKD := Lib.hid kD
    have HDV := Lib.hid hd
    have HFR := Lib.hid hfr
    have HLX := Lib.hid hltx
    have HRL := Lib.hid hrowlt
    have HBI := Lib.hid hbi
    have HM := Lib.hid hm
    have c4 := hd.c4
    have HX := Lib.hid hx
    have HSC := Lib.hid hsc
    have HV0 := Lib.hid hv0
    have hfl : ((sftOf D1.soft i).filter (kp bit)).length ≤ 1000 := by
      have h1 := List.length_filter_le (kp bit) (sftOf D1.soft i)
      have h2 := sftOf_le D1.soft i
      omega
    have hMv : (softV (fs i)).ownBlock ≠ some wv.heap.size := fun e => by
      have h1 := hltx _ (hrowlt _ e)
      omega
    have HFL := Lib.hid hfl
    have HFW := Lib.hid hfew
    have HMV := Lib.hid hMv
    have HSV := Lib.hid hsv
    clear HC c5 hwv hbv hsc hv0 hfl hMv hsv hfew hd0 hfr0 hpr0 hpr hd hfr hi0 hi1 hwf hbi hltx hrowlt hrowb kS kL kD hbit hm hx hy hyy
    go_cut [] from 40 to 57 (fun w7 => Hid (Wrote wv D1 i p ms fs w7) ∧ Hid (Fr (fun k => (softV (fs i)).ownBlock = some k ∨ k = ms) wv w7))
    case first =>
      go_region_held3 (fun W => W.cell? ⟨b, 4, none⟩ = some (.map (some ms)) ∧ W.cell? ⟨y, 0, none⟩ = some (.int .i64 bit) ∧ W.rangeAt x 0 (cellsB p))
        (first
          | (exact HKS.out _ (by assumption))
          | (exact HKS.out _ (Fr.alloc (by assumption) _))
          | (exact HKS.out _ (Fr.alloc (Fr.drew (Fr.refl _ _)) _))
          | (exact HKS.out _ (Fr.drew (Fr.refl _ _))))
        (first
          | (go_at_call 30; refine (HKD.out wv.drew (Below.refl _ _).drew).mono ?_; rintro e wD ⟨v1, rfl, hfD, hvD, hoD⟩; have hG := (frA hfD).mono (G := fun k => (softV (fs i)).ownBlock = some k ∨ k = ms) fun k hk => .inl (.inl hk))
          | (go_at_call 30; refine (HKD.out (wv.drew.alloc (.cells (wCells (bit, p)).toArray 70)) ((Below.refl _ _).drew.alloc (Nat.le_refl _) _)).mono ?_; rintro e wD ⟨v1, rfl, hfD, hvD, hoD⟩; have hG := (frB hfD).mono (G := fun k => (softV (fs i)).ownBlock = some k ∨ k = ms) fun k hk => .inl (.inl hk))
          | (refine step_app_wr (by rfl) _ _ (by rfl) v1 ((sftOf D1.soft i).filter (kp bit)) (bit, p) hp HFL.out wD.heap.size (by rfl) (by rfl) (hoD.alloc _) (range_cells wD wD.heap.size rfl (wCells (bit, p)) 70) ?_; intro g' cap' w6 ho6 hg6 hgg; refine app_step HDV.out HI0.out HI1.out HBI.out hvD ((frA hfD).alloc _) hg6 hgg ho6 ?_; intro w7 hrun hfin hG7 hG6)
          | (refine step_app_wr (by rfl) _ _ (by rfl) v1 ((sftOf D1.soft i).filter (kp bit)) (bit, p) hp HFL.out wv.heap.size (by rfl) (by rfl) hoD (range_frB hfD HMV.out) ?_; intro g' cap' w6 ho6 hg6 hgg; refine app_step HDV.out HI0.out HI1.out HBI.out hvD (frB hfD) hg6 hgg ho6 ?_; intro w7 hrun hfin hG7 hG6))
      all_goals
        go_wp2_with fail
        go_meet
        exact ⟨hfin, hG7⟩
    case rest =>
      obtain ⟨HWR, HG7⟩ := hcut
      have hbx := HLX.out b HDV.out.inb
      have hrb : ¬ ((softV (fs i)).ownBlock = some b ∨ b = ms) := fun e => e.elim (fun e => by
        have h1 := HDV.out.softAt i
        cases hf : fs i with
        | none => rw [hf] at e; cases e
        | some v =>
          rw [hf] at h1 e
          obtain ⟨_, g, cap, rfl, hg, _⟩ := h1
          obtain rfl : g = b := by simpa [softV, Value.ownBlock] using e
          exact (HDV.out.row hf).1 rfl) HDV.out.ne_bs
      have hbl := HG7.out.block b (HDV.out.lt b HDV.out.inb) hrb
      have c5 : wc.cell? ⟨b, 5, none⟩ = some (.int .i64 (m : Int)) := by
        have := HDV.out.c5
        rw [HM.out] at this
        simpa [World.cell?, hbl] using this
      have f5 : wc.frozen? ⟨b, 5, none⟩ = false := by
        have := HDV.out.f5
        simpa [World.frozen?, hbl] using this
      have hw : IntKind.i64.wrap ((m : Int) + 1) = (m : Int) + 1 := IntWalk.i64_in _ (by have := HFW.out; omega)
      clear hbl hrb hbx l1 l2 l3 q1 q2 q3 q4 q5 c4
      go_wp2
      go_ret
      obtain ⟨g', cap', w6, h1, h2, h3, h4, h5⟩ := HWR.out
      have hend := DskIn.wrote HDV.out HI0.out HI1.out hp (by rw [HM.out]; exact HFW.out) h1 rfl h2 h3 h4 h5
      rw [HM.out] at hend
      have hsz := HX.out
      have hsz2 := HSC.out
      have hsz3 := HSV.out
      refine ⟨rfl, fun k => F k ∨ k = g', ?_, HFR.out.trans hend.2 fun j hj => .inl hj, fun k hk => ?_⟩
      · rw [HW1.out]
        exact ⟨_, _, _, _, _, _, hend.1⟩
      · rcases hk with hk | rfl
        · exact .inl hk
        · rcases h3 with h3 | h3
          · exact .inl (HRL.out _ h3)
          · exact .inr (by omega)

/-- What Write answers. -/
def DskV.refuse (D : DskV) (i : Int) : Int := if D.why i = 0 then (if D.budget = 0 then 10 else 0) else D.why i
set_option maxRecDepth 10000 in
theorem write_nil (i : Int) (p : PgL) (w : World) : Calls Tryd.prog 15 #[.pointer none, .int .i64 i, pgv p] w fun e w' => e = .returned (errV 1) ∧ Below w.heap.size w w' := by
  have hb1 : Below w.heap.size w (w.alloc (.cells (cellsB p).toArray 40)) := (Below.refl _ _).alloc (Nat.le_refl _) _
  have HB := Lib.hid hb1
  clear hb1
  go_enter Tryd.func15, Tryd.ntmps15
  go_wp2_with fail
  refine (reach_nil _ _).mono ?_
  rintro e w' ⟨rfl, rfl⟩
  rw [show errV 1 = .iface 57 (.int .i64 1) from rfl]
  go_wp2
  go_ret
  exact ⟨rfl, HB.out⟩
set_option maxRecDepth 10000 in
theorem write_bad {w : World} {F : Nat → Prop} {b : Nat} {D : DskV} (h : IsDsk w F b D) (i : Int) (p : PgL) (hn : D.refuse i ≠ 0) :
    Calls Tryd.prog 15 #[.pointer (some ⟨b, 0, none⟩), .int .i64 i, pgv p] w fun e w' => e = .returned (errV (D.refuse i)) ∧ Below w.heap.size w w' := by
  have hb1 : Below w.heap.size w (w.alloc (.cells (cellsB p).toArray 40)) := (Below.refl _ _).alloc (Nat.le_refl _) _
  have HR := Lib.hid (reach_any (h.below hb1) i)
  obtain ⟨mf, ms, nf, ns, ff, fs, hd⟩ := h.below hb1
  have c2 := hd.c2
  have HB := Lib.hid hb1
  clear hb1 hd h
  by_cases hy : D.why i = 0
  · have hb0 : D.budget = 0 := by
      unfold DskV.refuse at hn
      rw [if_pos hy] at hn
      by_cases hb : D.budget = 0
      · exact hb
      · rw [if_neg hb] at hn; exact absurd rfl hn
    have hr : D.refuse i = 10 := by unfold DskV.refuse; rw [if_pos hy, if_pos hb0]
    rw [hy] at HR
    rw [hb0] at c2
    rw [hr]
    clear hr hn
    go_enter Tryd.func15, Tryd.ntmps15
    go_wp2_with fail
    refine HR.out.mono ?_
    rintro e w' ⟨rfl, rfl⟩
    rw [show errV 0 = .nilIface from rfl]
    go_wp2
    go_ret
    exact ⟨rfl, HB.out⟩
  · have hr : D.refuse i = D.why i := by unfold DskV.refuse; rw [if_neg hy]
    rw [hr]
    obtain ⟨n, hn2⟩ : ∃ n, D.why i = n := ⟨_, rfl⟩
    rw [hn2] at HR hy
    rw [hn2, show errV n = .iface 57 (.int .i64 n) from if_neg hy]
    rw [show errV n = .iface 57 (.int .i64 n) from if_neg hy] at HR
    clear hr hn hn2 c2
    go_enter Tryd.func15, Tryd.ntmps15
    go_wp2_with fail
    refine HR.out.mono ?_
    rintro e w' ⟨rfl, rfl⟩
    go_wp2
    go_ret
    exact ⟨rfl, HB.out⟩
end Go.Proofs.YtpimclhdimcioaaDoor
