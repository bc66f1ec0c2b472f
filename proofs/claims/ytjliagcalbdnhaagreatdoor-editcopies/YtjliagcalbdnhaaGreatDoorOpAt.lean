/-
  An op of the statements' own (layer 11) in memory, and 'Few' of it: an op of a size that is looked at. No condition.
-/
import Derived.Test.YtjliagcalbdnhaaGreatDoorOpsOf
import Derived.IntWalk
import Derived.Lib.Hide
import Derived.BigQuiet
namespace Go.Proofs.YtjliagcalbdnhaaGreatDoor
open Go.RowKit

/-- An op in memory. -/
def OpAt (w : World) (b : Nat) (o : Op11) : Prop := w.heap[b]? = some (.cells #[.int .i64 o.1, .string o.2.1, .string o.2.2.1, .int .i64 o.2.2.2.1, .string o.2.2.2.2] 32 (0, 0))
theorem opAt_new (w : World) (o : Op11) : OpAt (w.alloc (.cells #[.int .i64 o.1, .string o.2.1, .string o.2.2.1, .int .i64 o.2.2.2.1, .string o.2.2.2.2] 32)) w.heap.size o := heap_alloc_new _ _
theorem opCell {w : World} {b : Nat} {o : Op11} (h : OpAt w b o) {j : Nat} {v : Value} (hj : (#[Value.int .i64 o.1, .string o.2.1, .string o.2.2.1, .int .i64 o.2.2.2.1, .string o.2.2.2.2] : Array Value)[j]? = some v) : w.cell? ⟨b, j, none⟩ = some v ∧ w.frozen? ⟨b, j, none⟩ = false := by
  unfold OpAt at h
  simp [World.cell?, World.frozen?, h, hj]
theorem OpAt.range {w : World} {b : Nat} {o : Op11} (h : OpAt w b o) : w.rangeAt b 0 (opc o) := fun j v hv => by
  rw [Nat.zero_add]
  exact (opCell h (by simpa using hv)).1
theorem opSize : (Tryz.prog.info? 32).map (·.size) = some 5 := by kernel_rfl
theorem lv_op {w : World} {b : Nat} {o : Op11} (h : OpAt w b o) : (loadVar 32 ⟨b, 0, none⟩).run Tryz.prog w = .ok (opV o) w :=
  run_loadVar_mid w b 0 32 _ _ h.range Tryz.underlying32 rfl (by rw [opSize]; rfl)
theorem results_cellO {fn : Func} {p : Tmp} {ty : TypeId} (h : fn.results = #[.cell p ty]) (tmps : Array Value) (P : Program) (w : World) :
    (results fn tmps).run P w = ((asAddr (tmps.getD p undef)).run P w).andThen fun a w₁ => (loadVar ty a).run P w₁ := by
  simp only [results, h]
  simp [Sem.run_bind, Result.andThen]
theorem bits_small (x : Int) : 0 ≤ bits .and .i64 x 1023 ∧ bits .and .i64 x 1023 ≤ 1023 := by
  have h : (BitVec.ofInt 64 x &&& BitVec.ofInt 64 1023).toNat ≤ 1023 := by
    rw [BitVec.toNat_and]
    exact Nat.le_trans Nat.and_le_right (by decide)
  have e : bits .and .i64 x 1023 = IntKind.i64.wrap (((BitVec.ofInt 64 x &&& BitVec.ofInt 64 1023).toNat : Nat) : Int) := rfl
  rw [e, IntWalk.i64_in _ (by omega)]
  omega
/-- Of a size that is looked at. -/
def FewO (o : Op11) : Prop := o.2.1.size ≤ 100 ∧ o.2.2.1.size ≤ 100 ∧ o.2.2.2.2.size ≤ 600
instance (o : Op11) : Decidable (FewO o) := inferInstanceAs (Decidable (_ ∧ _))
set_option maxRecDepth 10000 in
theorem few11 (o : Op11) (w : World) : Calls Tryz.prog 12 #[opV o] w fun e w' => e = .returned (.int .i64 (if FewO o then 1 else 0)) ∧ Below w.heap.size w w' := by
  obtain ⟨R, hR⟩ : ∃ R : Int, (if FewO o then 1 else 0) = R := ⟨_, rfl⟩
  rw [hR]
  have HR := Lib.hid hR
  clear hR
  obtain ⟨d, p, q, n, s⟩ := o
  by_cases h1 : (100 : Int) < (p.size : Int)
  · have HV := Lib.hid (show R = 0 by rw [← HR.out, if_neg fun h => by have := h.1; simp only at this; omega])
    go_enter Tryz.func12, Tryz.ntmps12
    go_wp2
    go_ret
    exact ⟨by rw [HV.out]; rfl, (Below.refl _ _).alloc (Nat.le_refl _) _⟩
  · by_cases h2 : (100 : Int) < (q.size : Int)
    · have HV := Lib.hid (show R = 0 by rw [← HR.out, if_neg fun h => by have := h.2.1; simp only at this; omega])
      go_enter Tryz.func12, Tryz.ntmps12
      go_wp2
      go_ret
      exact ⟨by rw [HV.out]; rfl, (Below.refl _ _).alloc (Nat.le_refl _) _⟩
    · by_cases h3 : (600 : Int) < (s.size : Int)
      · have HV := Lib.hid (show R = 0 by rw [← HR.out, if_neg fun h => by have := h.2.2; simp only at this; omega])
        go_enter Tryz.func12, Tryz.ntmps12
        go_wp2
        go_ret
        exact ⟨by rw [HV.out]; rfl, (Below.refl _ _).alloc (Nat.le_refl _) _⟩
      · have HV := Lib.hid (show R = 1 by rw [← HR.out, if_pos ⟨by show p.size ≤ 100; omega, by show q.size ≤ 100; omega, by show s.size ≤ 600; omega⟩])
        go_enter Tryz.func12, Tryz.ntmps12
        go_wp2
        go_ret
        exact ⟨by rw [HV.out]; rfl, (Below.refl _ _).alloc (Nat.le_refl _) _⟩
end Go.Proofs.YtjliagcalbdnhaaGreatDoor
