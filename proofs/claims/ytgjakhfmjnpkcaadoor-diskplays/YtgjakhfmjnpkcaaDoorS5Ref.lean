/-
  The contract of the document's own Read of a disk (package shaleref05): the last page written there. Condition: the disk's lists lie in memory.
-/
import Derived.Test.YtgjakhfmjnpkcaaDoorPgAt
import Derived.Test.YtgjakhfmjnpkcaaDoorRowN
import Derived.Test.YtgjakhfmjnpkcaaDoorRowOf
import Derived.Lib.Hide
import Derived.Deep.LoopGhost
namespace Go.Proofs.YtgjakhfmjnpkcaaDoor
open Go.RowKit

theorem alloc_ar (w : World) : (Instr.alloc 36 true (.tuple #[])).run Tryd.prog w = .ok (.pointer (some ⟨w.heap.size, 0, none⟩)) (w.alloc (.cells zpc 36)) := by kernel_rfl
theorem arSize : (Tryd.prog.info? 36).map (·.size) = some 64 := by kernel_rfl
theorem load_ar {w : World} {b o : Nat} {l : List UInt8} (h : w.rangeAt b o (cellsB l)) (hl : l.length = 64) : (Instr.loadAt 36 (.pointer (some ⟨b, o, none⟩))).run Tryd.prog w = .ok (pgv l) w :=
  run_loadAt_mid w b o 36 (cellsB l) _ h Tryd.underlying36 rfl (by rw [arSize, cellsB_len, hl])
theorem store_ar {w : World} {b o : Nat} {l : List UInt8} (h : w.there b o 64) (hl : l.length = 64) : (Instr.storeAt 36 (.pointer (some ⟨b, o, none⟩)) (pgv l)).run Tryd.prog w = .ok () (w.setCells b o (cellsB l)) := by
  have := run_storeAt_mid (P := Tryd.prog) w b o 36 (cellsB l).toArray (by rw [List.size_toArray, cellsB_len, hl]; exact h) (by rw [arSize, List.size_toArray, cellsB_len, hl]) (all_oneCell_toArray (cellsB_one l))
  rw [show (cellsB l).toArray.toList = cellsB l by simp] at this
  exact this

theorem load_var {w : World} {b o : Nat} {l : List UInt8} (h : w.rangeAt b o (cellsB l)) (hl : l.length = 64) : (loadVar 36 ⟨b, o, none⟩).run Tryd.prog w = .ok (pgv l) w :=
  run_loadVar_mid w b o 36 (cellsB l) _ h Tryd.underlying36 rfl (by rw [arSize, cellsB_len, hl])
theorem results_cell {fn : Func} {p : Tmp} {ty : TypeId} (h : fn.results = #[.cell p ty]) (tmps : Array Value) (P : Program) (w : World) :
    (results fn tmps).run P w = ((asAddr (tmps.getD p undef)).run P w).andThen fun a w₁ => (loadVar ty a).run P w₁ := by
  simp only [results, h]
  simp [Sem.run_bind, Result.andThen]
theorem wl_load_ar {ops : Array Oper} {rest : List Oper} {op : Oper} {a : Act} {w : World} {Q : Exit → Act → World → Prop} (hgd : op.guard = none) (x : Operand) (ho : op.op = .load 36 x) (b o : Nat) (hx : a.eval x = .pointer (some ⟨b, o, none⟩)) {l : List UInt8} (hc : w.rangeAt b o (cellsB l)) (hl : l.length = 64)
    (h : wpList Tryd.prog ops Q rest (a.put op.dst (pgv l)) w) : wpList Tryd.prog ops Q (op :: rest) a w :=
  wpList_load_mid hgd 36 x ho b o hx (cellsB l) _ hc Tryd.underlying36 rfl (by rw [arSize, cellsB_len, hl]) h
theorem wl_store_ar {ops : Array Oper} {rest : List Oper} {op : Oper} {a : Act} {w : World} {Q : Exit → Act → World → Prop} (hgd : op.guard = none) (x y : Operand) (ho : op.op = .store 36 x y) (b o : Nat) (hx : a.eval x = .pointer (some ⟨b, o, none⟩)) {l : List UInt8} (hy : a.eval y = pgv l) (hc : w.there b o 64) (hl : l.length = 64)
    (h : wpList Tryd.prog ops Q rest (a.put op.dst undef) (w.setCells b o (cellsB l))) : wpList Tryd.prog ops Q (op :: rest) a w := by
  refine wpList_store_mid hgd 36 x y ho b o (cellsB l).toArray hx hy (by rw [List.size_toArray, cellsB_len, hl]; exact hc) (by rw [arSize, List.size_toArray, cellsB_len, hl]) (all_oneCell_toArray (cellsB_one l)) ?_
  rw [show (cellsB l).toArray.toList = cellsB l by simp]
  exact h

/-- What stands at i: the last of the writes there. -/
def lastP (L : List (Int × List UInt8)) (i : Int) : List UInt8 := L.foldl (fun p x => if x.1 = i then x.2 else p) zpg
theorem lastP_snoc (L : List (Int × List UInt8)) (x : Int × List UInt8) (i : Int) : lastP (L ++ [x]) i = if x.1 = i then x.2 else lastP L i := by simp [lastP]
theorem lastP_len (L : List (Int × List UInt8)) (i : Int) (h : ∀ x ∈ L, x.2.length = 64) : (lastP L i).length = 64 := by
  unfold lastP
  have : ∀ (L : List (Int × List UInt8)) (p : List UInt8), p.length = 64 → (∀ x ∈ L, x.2.length = 64) → (L.foldl (fun p x => if x.1 = i then x.2 else p) p).length = 64 := by
    intro L
    induction L with
    | nil => intro p hp _; exact hp
    | cons x r ih =>
      intro p hp h
      refine ih _ ?_ fun y hy => h y (List.mem_cons_of_mem _ hy)
      dsimp only
      split
      · exact h x List.mem_cons_self
      · exact hp
  exact this L zpg zpg_len h

attribute [local go_sem ↓] ldw_ar stw_ar
attribute [local go_sem] isPgV_ptr pgAtV_ptr thereV_ptr setV_ptr cellsV_agg
set_option maxRecDepth 10000 in
set_option maxHeartbeats 2000000 in
theorem rread_any (size bud : Int) (down : Bool) (aA aW aF : Option Addr) (cA cW cF n : Nat) (L : List (Int × List UInt8)) (hn : L.length = n) (hnm : n ≤ 9223372036854775806) (h64 : ∀ x ∈ L, x.2.length = 64) (i : Int) (w : World) (hrA : RowOf (Value.int .i64) w aA cA (L.map (·.1))) (hrW : RowN 64 cellsB w aW cW (L.map (·.2))) :
    Calls Tryd.prog 20 #[.agg #[.int .i64 size, .slice aA n cA, .slice aW n cW, .slice aF n cF, .bool down, .int .i64 bud], .int .i64 i] w fun e w' => e = .returned (pgv (lastP L i)) ∧ Below w.heap.size w w' := by
  have HN := Lib.hid hn
  have H64 := Lib.hid h64
  have HA := Lib.hid hrA
  have HW := Lib.hid hrW
  clear hn h64 hrA hrW
  obtain ⟨W0, hW0⟩ : ∃ W0, W0 = (((w.alloc (.cells #[.int .i64 size, .slice aA n cA, .slice aW n cW, .slice aF n cF, .bool down, .int .i64 bud] 35)).alloc (.cells zpc 36)).alloc (.cells zpc 36)) := ⟨_, rfl⟩
  obtain ⟨x, hx⟩ : ∃ x, x = w.heap.size := ⟨_, rfl⟩
  have hb0 : Below x w W0 := by
    rw [hW0, hx]
    exact (((Below.refl _ _).alloc (Nat.le_refl _) _).alloc (by simp) _).alloc (by simp; omega) _
  have hc1 : W0.cell? ⟨x, 1, none⟩ = some (.slice aA n cA) := by
    rw [hW0, hx, World.cell?_alloc_past _ _ _ (by simp; omega), World.cell?_alloc_past _ _ _ (by simp), World.cell?_alloc_at _ _ _ _ rfl]
    rfl
  have hc2 : W0.cell? ⟨x, 2, none⟩ = some (.slice aW n cW) := by
    rw [hW0, hx, World.cell?_alloc_past _ _ _ (by simp; omega), World.cell?_alloc_past _ _ _ (by simp), World.cell?_alloc_at _ _ _ _ rfl]
    rfl
  have hr2 : W0.rangeAt (x + 1 + 1) 0 (cellsB zpg) ∧ W0.there (x + 1 + 1) 0 64 := by
    have := range_new ((w.alloc (.cells #[.int .i64 size, .slice aA n cA, .slice aW n cW, .slice aF n cF, .bool down, .int .i64 bud] 35)).alloc (.cells zpc 36)) 36
    rw [← hW0] at this
    simpa [← hx] using this
  have hr1 : W0.there (x + 1) 0 64 := by
    have := (range_new (w.alloc (.cells #[.int .i64 size, .slice aA n cA, .slice aW n cW, .slice aF n cF, .bool down, .int .i64 bud] 35)) 36).2
    have := there_below this (B := x + 2) ((Below.refl _ _).alloc (by simp [hx]) (.cells zpc 36)) (by simp [hx])
    rw [← hW0] at this
    simpa [← hx] using this
  have H0 := Lib.hid (And.intro hb0 (And.intro hc1 (And.intro hc2 (And.intro hr2 hr1))))
  clear hb0 hc1 hc2 hr2 hr1
  go_enter Tryd.func20, Tryd.ntmps20
  go_wp2
  change Code.wp _ _ _ _ (((w.alloc (.cells #[.int .i64 size, .slice aA n cA, .slice aW n cW, .slice aF n cF, .bool down, .int .i64 bud] 35)).alloc (.cells zpc 36)).alloc (.cells zpc 36))
  rw [← hW0]
  clear hW0
  rw [← hx]
  have HX := Lib.hid hx
  clear hx
  go_loopg [6] n (fun g vi wx => ∃ (k : Nat), vi = .int .i64 (k : Int) ∧ k + g = n ∧ Hid (Below x w wx ∧ wx.cell? ⟨x, 1, none⟩ = some (.slice aA n cA) ∧ wx.cell? ⟨x, 2, none⟩ = some (.slice aW n cW) ∧ (wx.rangeAt (x + 1 + 1) 0 (cellsB (lastP (L.take k) i)) ∧ wx.there (x + 1 + 1) 0 64) ∧ wx.there (x + 1) 0 64))
  case atStart => exact ⟨0, rfl, by omega, by rw [List.take_zero]; exact H0.out⟩
  case round =>
    clear H0
    obtain ⟨k, rfl, hk, HR⟩ := hrel
    obtain ⟨hb, hc1, hc2, ⟨hr2, ht2⟩, ht1⟩ := HR.out
    have HB := Lib.hid hb
    have HR2 := Lib.hid hr2
    have HT2 := Lib.hid ht2
    have HT1 := Lib.hid ht1
    clear HR hb hr2 ht2 ht1
    by_cases hlt : k < n
    · have hlt' : (k : Int) < (n : Int) := by omega
      have hw : IntKind.i64.wrap ((k : Int) + 1) = (k : Int) + 1 := IntWalk.i64_in _ (by omega)
      obtain ⟨b, off, z, rfl, hcA, htk, hdr⟩ := HA.out.at (HX.out ▸ HB.out) (k := k) (by have := HN.out; simp; omega)
      obtain ⟨b2, off2, pz, rfl, _, hrW, _, htw, hdw⟩ := HW.out.at (HX.out ▸ HB.out) (k := k) (by have := HN.out; simp; omega)
      obtain ⟨y, hy, rfl, rfl, hyt⟩ : ∃ y, y ∈ L ∧ z = y.1 ∧ pz = y.2 ∧ L.take (k + 1) = L.take k ++ [y] := by
        have hkl : k < L.length := by have := HN.out; omega
        refine ⟨L[k], List.getElem_mem hkl, ?_, ?_, ?_⟩
        · rw [List.drop_eq_getElem_cons (by simpa using hkl)] at hdr
          injection hdr with h1 _
          rw [← h1]
          simp
        · rw [List.drop_eq_getElem_cons (by simpa using hkl)] at hdw
          injection hdw with h1 _
          rw [← h1]
          simp
        · rw [List.take_add_one, List.getElem?_eq_getElem hkl]
          rfl
      have hp64 := H64.out y hy
      have HY := Lib.hid hyt
      clear htk hdr htw hdw hy hyt
      by_cases hz : y.1 = i
      · have hz' : (y.1 == i) = true := by simp [hz]
        have q1 := isPg hrW hp64
        have q2 := pgAt_eq hrW hp64
        have q3 := HT2.out
        have q4 := isPv_agg hp64
        clear hrW
        go_wp2
        go_roundg (gk - 1)
        case measure => omega
        case rel =>
          refine ⟨k + 1, by simp, by omega, below_cells HB.out (by omega) _ _, ?_, ?_, ⟨?_, World.there_setCells HT2.out _ _ _⟩, World.there_setCells HT1.out _ _ _⟩
          · rw [World.cell?_setCells_out _ _ _ _ _ (fun hb _ => by simp at hb; omega)]; exact hc1
          · rw [World.cell?_setCells_out _ _ _ _ _ (fun hb _ => by simp at hb; omega)]; exact hc2
          · rw [HY.out, lastP_snoc, if_pos hz]
            exact World.rangeAt_setCells_same _ _ _ _ (by rw [cellsB_len, hp64]; exact HT2.out)
      · have hz' : (y.1 == i) = false := by simp [hz]
        clear hrW
        go_wp2
        go_roundg (gk - 1)
        case measure => omega
        case rel => exact ⟨k + 1, by simp, by omega, HB.out, hc1, hc2, ⟨by rw [HY.out, lastP_snoc, if_neg hz]; exact HR2.out, HT2.out⟩, HT1.out⟩
    · have hlt' : ¬ (k : Int) < (n : Int) := by omega
      have hL : L.take k = L := List.take_of_length_le (by have := HN.out; omega)
      have h64' := lastP_len L i H64.out
      have HR3 := Lib.hid HR2.out
      rw [hL] at HR3
      clear HR2 hL
      go_wp2_with (first | (refine wl_load_ar (by rfl) _ (by rfl) _ _ (by rfl) HR3.out h64' ?_) | (refine wl_store_ar (by rfl) _ _ (by rfl) _ _ (by rfl) (by rfl) HT1.out h64' ?_))
      have hld := load_var (World.rangeAt_setCells_same wr (x + 1) 0 (cellsB (lastP L i)) (by rw [cellsB_len, h64']; exact HT1.out)) h64'
      refine bodyPost_ret (v := pgv (lastP L i)) ?_ rfl ⟨rfl, HX.out ▸ below_cells HB.out (by omega) _ _⟩
      rw [results_cell rfl]
      simp [asAddr, Result.andThen, hld]
end Go.Proofs.YtgjakhfmjnpkcaaDoor
