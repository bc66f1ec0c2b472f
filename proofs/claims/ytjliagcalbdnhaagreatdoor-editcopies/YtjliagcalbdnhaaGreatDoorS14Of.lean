/-
  The statements' own Of of layer 14: an op, as the program has it. No condition.
-/
import Derived.Test.YtjliagcalbdnhaaGreatDoorOpAt
import Derived.Test.YtjliagcalbdnhaaGreatDoorPc
namespace Go.Proofs.YtjliagcalbdnhaaGreatDoor
open Go.RowKit

theorem eopSize : (Tryz.prog.info? 37).map (·.size) = some 5 := by kernel_rfl
theorem lv_eop {w : World} {b : Nat} {o : Op11} (h : w.heap[b]? = some (.cells #[.int .i64 o.1, .string o.2.1, .string o.2.2.1, .int .i64 o.2.2.2.1, .string o.2.2.2.2] 37 (0, 0))) : (loadVar 37 ⟨b, 0, none⟩).run Tryz.prog w = .ok (opV o) w :=
  run_loadVar_mid w b 0 37 (opc o) _ (fun j v hv => by
    rw [Nat.zero_add]
    have hv' : (#[Value.int .i64 o.1, .string o.2.1, .string o.2.2.1, .int .i64 o.2.2.2.1, .string o.2.2.2.2] : Array Value)[j]? = some v := by simpa using hv
    simp [World.cell?, h, hv']) Tryz.underlying37 rfl (by rw [eopSize]; rfl)
theorem results_cellP {fn : Func} {p : Tmp} {ty : TypeId} (h : fn.results = #[.cell p ty]) (tmps : Array Value) (P : Program) (w : World) :
    (results fn tmps).run P w = ((asAddr (tmps.getD p undef)).run P w).andThen fun a w₁ => (loadVar ty a).run P w₁ := by
  simp only [results, h]
  simp [Sem.run_bind, Result.andThen]
set_option maxRecDepth 10000 in
set_option maxHeartbeats 2000000 in
theorem of14 (o : Op11) (w : World) : Calls Tryz.prog 14 #[opV o] w fun e w' => e = .returned (opV o) ∧ Below w.heap.size w w' := by
  obtain ⟨d, p, q, n, s⟩ := o
  obtain ⟨W, hW⟩ : ∃ W, w.alloc (.cells #[.int .i64 d, .string p, .string q, .int .i64 n, .string s] 32) = W := ⟨_, rfl⟩
  obtain ⟨M, hM⟩ : ∃ M, w.heap.size = M := ⟨_, rfl⟩
  obtain ⟨V, hV⟩ : ∃ V, W.alloc (.cells #[.int .i64 0, .string ⟨#[]⟩, .string ⟨#[]⟩, .int .i64 0, .string ⟨#[]⟩] 37) = V := ⟨_, rfl⟩
  obtain ⟨O, hO⟩ : ∃ O, W.heap.size = O := ⟨_, rfl⟩
  have hb : Below w.heap.size w W := by rw [← hW]; exact (Below.refl _ _).alloc (Nat.le_refl _) _
  have hb1 : Below W.heap.size W V := by rw [← hV]; exact (Below.refl _ _).alloc (Nat.le_refl _) _
  have ho : OpAt W M (d, p, q, n, s) := by rw [← hW, ← hM]; exact opAt_new w (d, p, q, n, s)
  have hlt : M < W.heap.size := by rw [← hW, ← hM]; simp
  have ho1 : OpAt V M (d, p, q, n, s) := (hb1.block M hlt).trans ho
  have ho2 : V.heap[O]? = some (.cells #[.int .i64 0, .string ⟨#[]⟩, .string ⟨#[]⟩, .int .i64 0, .string ⟨#[]⟩] 37 (0, 0)) := by rw [← hV, ← hO]; exact heap_alloc_new _ _
  have c0 := (opCell ho1 (j := 0) rfl).1
  have c1 := (opCell ho1 (j := 1) rfl).1
  have c2 := (opCell ho1 (j := 2) rfl).1
  have c3 := (opCell ho1 (j := 3) rfl).1
  have c4 := (opCell ho1 (j := 4) rfl).1
  have e0 := cell_of8 ho2 (j := 0) rfl
  have e1 := cell_of8 ho2 (j := 1) rfl
  have e2 := cell_of8 ho2 (j := 2) rfl
  have e3 := cell_of8 ho2 (j := 3) rfl
  have e4 := cell_of8 ho2 (j := 4) rfl
  have hne : ¬ O = M := by omega
  have hne2 : ¬ M = O := by omega
  have HBV := Lib.hid (hb.trans (hb1.mono hb.size))
  have HNE := Lib.hid (show w.heap.size ≤ M ∧ w.heap.size ≤ O by have := hb.size; omega)
  simp only at c0 c1 c2 c3 c4
  obtain ⟨e0, g0⟩ := e0
  obtain ⟨e1, g1⟩ := e1
  obtain ⟨e2, g2⟩ := e2
  obtain ⟨e3, g3⟩ := e3
  obtain ⟨e4, g4⟩ := e4
  clear hb hb1 ho hlt
  have hfin := set_of8 (set_of8 (set_of8 (set_of8 (set_of8 ho2 0 (.int .i64 d)) 1 (.string p)) 2 (.string q)) 3 (.int .i64 n)) 4 (.string s)
  have HLD := Lib.hid (lv_eop (o := (d, p, q, n, s)) (by exact hfin))
  have HBF := Lib.hid (((((HBV.out.setCell (p := ⟨O, 0, none⟩) HNE.out.2 (.int .i64 d)).setCell (p := ⟨O, 1, none⟩) HNE.out.2 (.string p)).setCell (p := ⟨O, 2, none⟩) HNE.out.2 (.string q)).setCell (p := ⟨O, 3, none⟩) HNE.out.2 (.int .i64 n)).setCell (p := ⟨O, 4, none⟩) HNE.out.2 (.string s))
  clear hfin ho1 ho2
  rw [hM] at HBF ⊢
  go_enter Tryz.func14, Tryz.ntmps14
  go_wp2
  refine bodyPost_ret (v := opV (d, p, q, n, s)) ?_ rfl ⟨rfl, HBF.out⟩
  rw [results_cellP rfl]
  simp [asAddr, Result.andThen, HLD.out]
end Go.Proofs.YtjliagcalbdnhaaGreatDoor
