/-
  Contracts of the landed disk's Read, of a disk and of nil, and of its helper last. Conditions: as each says.
-/
import Derived.Test.YtpimclhdimcioaaDoorS5Small
import Derived.Test.YtpimclhdimcioaaDoorBuild5
import Derived.WalkArith
namespace Go.Proofs.YtpimclhdimcioaaDoor
open Go.RowKit Go.Maps

attribute [local go_sem ↓] ldw_pg stw_pg ldw_wr stw_wr alw_wr alw_pg bdw_pg0 bdw_pg1
attribute [local go_sem] isPgV_ptr pgAtV_ptr thereV_ptr setV_ptr cellsV_agg isWrV_ptr wrAtV_ptr thereW_ptr cellsV_wr
theorem results_cell2 {fn : Func} {p q : Tmp} {ty : TypeId} (h : fn.results = #[.cell p ty, .tmp q]) (tmps : Array Value) (P : Program) (w : World) :
    (results fn tmps).run P w = ((asAddr (tmps.getD p undef)).run P w).andThen fun a w₁ => ((loadVar ty a).run P w₁).andThen fun v w₂ => .ok (.tuple #[v, tmps.getD q undef]) w₂ := by
  simp only [results, h]
  simp [Sem.run_bind, Result.andThen]

set_option maxRecDepth 10000 in
set_option maxHeartbeats 1000000 in
theorem last_any {w : World} {g cap : Nat} {l : List WrL} (hne : l ≠ []) (h64 : ∀ x ∈ l, x.2.length = 64) (hf : l.length ≤ 1000000) (h : w.ownsRow 0 70 65 (.slice (some ⟨g, 0, none⟩) l.length cap) l.length (l.flatMap wCells)) :
    Calls Tryd.prog 28 #[.slice (some ⟨g, 0, none⟩) l.length cap] w fun e w' => e = .returned (pgv (l.getLast hne).2) ∧ Below w.heap.size w w' := by
  obtain ⟨x, hx⟩ : ∃ x, x = l.getLast hne := ⟨_, rfl⟩
  obtain ⟨m, hm⟩ : ∃ m, l.length = m + 1 := ⟨l.length - 1, by have := List.length_pos_iff.2 hne; omega⟩
  have hxm : l[m]? = some x := by rw [hx, List.getLast_eq_getElem, ← List.getElem?_eq_getElem]; congr 1; omega
  have hx64 : x.2.length = 64 := h64 x (List.mem_of_getElem? hxm)
  have hr := page_in (row_at h64 h hxm).1
  have hlt := (owns_lt h).1
  rw [← hx]
  have hr2 : (w.alloc (.cells zpc 40)).rangeAt g (m * 65 + 1) (cellsB x.2) := rangeAt_below hr ((Below.refl w.heap.size _).alloc (Nat.le_refl _) _) hlt
  have q1 := isPg hr2 hx64
  have q2 := pgAt_eq hr2 hx64
  have q3 := isPv_agg hx64
  have q4 := there_zp w 40
  have hw : IntKind.i64.wrap (m : Int) = (m : Int) := IntWalk.i64_in _ (by omega)
  have hw2 : (m : Int) < (m : Int) + 1 := by omega
  have q5 := set_zp (w := w) (N := w.heap.size) rfl (t := 40) hx64
  rw [hm]
  clear h hf h64 hx hxm hr hr2 hm
  go_enter Tryd.func28, Tryd.ntmps28
  go_wp2
  have hld := lv_pg (isPg_new w w.heap.size rfl 40 hx64).1
  rw [(isPg_new w w.heap.size rfl 40 hx64).2] at hld
  refine bodyPost_ret (v := pgv x.2) ?_ rfl ⟨rfl, (Below.refl _ _).alloc (Nat.le_refl _) _⟩
  rw [results_cell rfl]
  simp [asAddr, Result.andThen, hld]

/-- What Read answers. -/
def DskV.seen (D : DskV) (i : Int) : PgL := if D.why i = 0 then D.read i else zpg
theorem why_cases (D : DskV) (i : Int) : D.why i = 0 ∨ D.why i = 1 ∨ D.why i = 11 := by
  unfold DskV.why
  split
  · exact .inr (.inr rfl)
  · split
    · exact .inr (.inl rfl)
    · exact .inl rfl
theorem why_zero {D : DskV} {i : Int} (h : D.why i = 0) : D.down = false ∧ 0 ≤ i ∧ i < D.size := by
  unfold DskV.why at h
  split at h
  · omega
  · split at h
    · omega
    · rename_i h1 h2
      exact ⟨by simpa using h1, by omega, by omega⟩
theorem wf_of {D : DskV} (hk : D.ok) {i : Int} (h0 : 0 ≤ i) (h1 : i < D.size) : (Lit.int .i64 i).wf = true := by
  have := hk.hi
  exact WalkArith.wf_i64 (by omega)
theorem zeroMS (w : World) : (zeroValue 67).run Tryd.prog w = .ok (.slice none 0 0) w := by kernel_rfl
theorem zeroMF (w : World) : (zeroValue 40).run Tryd.prog w = .ok (pgv zpg) w := by kernel_rfl

set_option maxRecDepth 10000 in
set_option maxHeartbeats 1000000 in
theorem read_nil (i : Int) (w : World) : Calls Tryd.prog 14 #[.pointer none, .int .i64 i] w fun e w' => e = .returned (.tuple #[pgv zpg, errV 1]) ∧ Below w.heap.size w w' := by
  have q3 := isPv_agg zpg_len
  have q4 := there_zp w 40
  have q5 := set_zp (w := w) (N := w.heap.size) rfl (t := 40) zpg_len
  go_enter Tryd.func14, Tryd.ntmps14
  go_wp2_with fail
  refine (reach_nil _ _).mono ?_
  rintro e w' ⟨rfl, rfl⟩
  rw [show errV 1 = .iface 57 (.int .i64 1) from rfl]
  go_wp2
  have hld := lv_pg (isPg_new w w.heap.size rfl 40 zpg_len).1
  rw [(isPg_new w w.heap.size rfl 40 zpg_len).2] at hld
  refine bodyPost_ret (v := .tuple #[pgv zpg, .iface 57 (.int .i64 1)]) ?_ rfl ⟨rfl, (Below.refl _ _).alloc (Nat.le_refl _) _⟩
  rw [results_cell2 rfl]
  simp [asAddr, Result.andThen, hld]

set_option maxRecDepth 10000 in
set_option maxHeartbeats 2000000 in
theorem read_any {w : World} {F : Nat → Prop} {b : Nat} {D : DskV} (h : IsDsk w F b D) (i : Int) : Calls Tryd.prog 14 #[.pointer (some ⟨b, 0, none⟩), .int .i64 i] w fun e w' => e = .returned (.tuple #[pgv (D.seen i), errV (D.why i)]) ∧ Below w.heap.size w w' := by
  have HI := Lib.hid h
  have q4 := there_zp w 40
  have hb0 : Below w.heap.size w (w.alloc (.cells zpc 40)) := (Below.refl _ _).alloc (Nat.le_refl _) _
  have HB := Lib.hid hb0
  clear h hb0
  by_cases hy : D.why i = 0
  · obtain ⟨hd, h0, h1⟩ := why_zero hy
    have hseen : D.seen i = D.read i := if_pos hy
    rw [hseen, hy]
    have hr64 := HI.out.ok.read i
    have hwf := wf_of HI.out.ok h0 h1
    have HY := Lib.hid hy
    clear hseen hy
    obtain ⟨mf, ms, nf, ns, ff, fs, h⟩ := HI.out.below HB.out
    have c3 := h.c3
    have c4 := h.c4
    have hsa := h.softAt i
    have hlk := (h.soft.look (t := 59) (e := 67) Tryd.underlying3 Tryd.underlying59 (zeroMS _) hwf).1
    have hlf := (h.firm.look (t := 58) (e := 40) Tryd.underlying3 Tryd.underlying58 (zeroMF _) hwf).1
    cases hfs : fs i with
    | none =>
      rw [hfs] at hsa hlk
      have hfv : (((ff i).map pgv).getD (pgv zpg)) = pgv (D.read i) := by
        have h2 : D.read i = D.firm i := by
          rcases lst_sft D.soft i (D.firm i) with ⟨_, h3⟩ | ⟨h3, _⟩
          · exact h3
          · exact absurd hsa h3
        rw [h2, ← h.firmAt i]
        cases ff i <;> rfl
      rw [hfv] at hlf
      have q3 := isPv_agg hr64
      have q5 := set_zp (w := w) (N := w.heap.size) rfl (t := 40) hr64
      simp only [Option.getD_none] at hlk
      clear hfv hsa h hfs hd h0 h1 hwf
      go_enter Tryd.func14, Tryd.ntmps14
      go_wp2_with fail
      refine (reach_any (HI.out.below HB.out) i).mono ?_
      rintro e w' ⟨rfl, rfl⟩
      rw [show errV (D.why i) = .nilIface from by rw [HY.out]; rfl]
      go_wp2
      have hld := lv_pg (isPg_new w w.heap.size rfl 40 hr64).1
      rw [(isPg_new w w.heap.size rfl 40 hr64).2] at hld
      refine bodyPost_ret (v := .tuple #[pgv (D.read i), .nilIface]) ?_ rfl ⟨rfl, (Below.refl _ _).alloc (Nat.le_refl _) _⟩
      rw [results_cell2 rfl]
      simp [asAddr, Result.andThen, hld]
    | some v =>
      rw [hfs] at hsa hlk
      obtain ⟨hne, g, cap, rfl, hFg, hown⟩ := hsa
      have hlv : ((sftOf D.soft i).getLast hne).2 = D.read i := by
        rcases lst_sft D.soft i (D.firm i) with ⟨h3, _⟩ | ⟨_, h3⟩
        · exact absurd h3 hne
        · exact h3
      have hs64 : ∀ x ∈ sftOf D.soft i, x.2.length = 64 := fun x hx => h.ok.soft (i, x.2) (sftOf_mem D.soft i x hx).2
      have HL := Lib.hid (last_any hne hs64 (by have := sftOf_le D.soft i; have := h.ok.few; omega) hown)
      have hpos : 0 < (sftOf D.soft i).length := List.length_pos_iff.2 hne
      have HLV := Lib.hid hlv
      simp only [Option.getD_some] at hlk
      clear hlf h hfs hd h0 h1 hwf hown hs64 hlv
      obtain ⟨n, hn⟩ : ∃ n, (sftOf D.soft i).length = n := ⟨_, rfl⟩
      have hpi : (0 : Int) < (n : Int) := by omega
      rw [hn] at hlk HL
      clear hn hpos
      go_enter Tryd.func14, Tryd.ntmps14
      go_wp2_with fail
      refine (reach_any (HI.out.below HB.out) i).mono ?_
      rintro e w' ⟨rfl, rfl⟩
      rw [show errV (D.why i) = .nilIface from by rw [HY.out]; rfl]
      go_wp2_with fail
      refine HL.out.mono ?_
      rintro e w' ⟨rfl, hb⟩
      rw [HLV.out]
      have q3 := isPv_agg hr64
      have q6 : w'.there w.heap.size 0 64 := there_below q4 hb (by simp)
      have HB2 := Lib.hid hb
      clear hb c3 c4 hlk q4
      go_wp2
      have hrg := World.rangeAt_setCells_same w' w.heap.size 0 (cellsB (D.read i)) (by rw [cellsB_len, hr64]; exact q6)
      have hld := lv_pg (isPg hrg hr64)
      rw [pgAt_eq hrg hr64] at hld
      refine bodyPost_ret (v := .tuple #[pgv (D.read i), .nilIface]) ?_ rfl ⟨rfl, below_cells (HB.out.trans (HB2.out.mono (by simp))) (Nat.le_refl _) _ _⟩
      rw [results_cell2 rfl]
      simp [asAddr, Result.andThen, hld]
  · have hseen : D.seen i = zpg := if_neg hy
    rw [hseen]
    obtain ⟨n, hn⟩ : ∃ n, D.why i = n := ⟨_, rfl⟩
    have hv : errV (D.why i) = .iface 57 (.int .i64 n) := by
      unfold errV
      rw [if_neg hy, hn]
    rw [hv]
    have HV := Lib.hid hv
    have q3 := isPv_agg zpg_len
    have q5 := set_zp (w := w) (N := w.heap.size) rfl (t := 40) zpg_len
    clear hseen hn hv hy
    go_enter Tryd.func14, Tryd.ntmps14
    go_wp2_with fail
    refine (reach_any (HI.out.below HB.out) i).mono ?_
    rintro e w' ⟨rfl, rfl⟩
    rw [HV.out]
    go_wp2
    have hld := lv_pg (isPg_new w w.heap.size rfl 40 zpg_len).1
    rw [(isPg_new w w.heap.size rfl 40 zpg_len).2] at hld
    refine bodyPost_ret (v := .tuple #[pgv zpg, .iface 57 (.int .i64 n)]) ?_ rfl ⟨rfl, (Below.refl _ _).alloc (Nat.le_refl _) _⟩
    rw [results_cell2 rfl]
    simp [asAddr, Result.andThen, hld]
end Go.Proofs.YtpimclhdimcioaaDoor
