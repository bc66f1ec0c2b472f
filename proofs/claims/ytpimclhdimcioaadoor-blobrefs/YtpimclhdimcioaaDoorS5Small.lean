/-
  Contracts of the landed disk's small calls: New, Size, Soft, Up, Budget, of a disk and of nil; of its helpers reach, drop and last. Conditions: as each says.
-/
import Derived.Test.YtpimclhdimcioaaDoorS5Disk
import Derived.Test.YtpimclhdimcioaaDoorS5Ref
import Derived.Test.YtpimclhdimcioaaDoorAppendAny
import Derived.Lib.Hide
namespace Go.Proofs.YtpimclhdimcioaaDoor
open Go.RowKit Go.Maps

/-- A new disk. -/
def DskV.fresh (n : Int) : DskV := ⟨n, false, -1, fun _ => zpg, []⟩
theorem fresh_ok {n : Int} (h1 : 1 ≤ n) (h2 : n ≤ 2048) : (DskV.fresh n).ok :=
  ⟨h1, h2, ⟨Int.le_refl _, by show (-1 : Int) ≤ 9223372036854775807; omega⟩, fun _ => zpg_len, fun x hx => (List.not_mem_nil hx).elim, fun x hx => (List.not_mem_nil hx).elim, Nat.zero_le _⟩
theorem new_bad (n : Int) (h : n < 1 ∨ 2048 < n) (w : World) : Calls Tryd.prog 8 #[.int .i64 n] w fun e w' => e = .returned (.tuple #[.pointer none, .iface 57 (.int .i64 1)]) ∧ w = w' := by
  rcases h with h | h
  · go_enter Tryd.func8, Tryd.ntmps8
    go_wp2
    go_ret2
    exact ⟨rfl, rfl⟩
  · have h0 : ¬ n < 1 := by omega
    go_enter Tryd.func8, Tryd.ntmps8
    go_wp2
    go_ret2
    exact ⟨rfl, rfl⟩
theorem new_good (n : Int) (h1 : 1 ≤ n) (h2 : n ≤ 2048) (w : World) : Calls Tryd.prog 8 #[.int .i64 n] w fun e w' => ∃ F b, e = .returned (.tuple #[.pointer (some ⟨b, 0, none⟩), .nilIface]) ∧ IsDsk w' F b (DskV.fresh n) ∧ Below w.heap.size w w' ∧ ∀ k, F k → w.heap.size ≤ k := by
  have h0 : ¬ n < 1 := by omega
  have h3 : ¬ 2048 < n := by omega
  have hmm := @run_makeMap Tryd.prog
  have HI : Hid (IsDsk (((w.alloc (.map #[] 0)).alloc (.map #[] 0)).alloc (.cells #[.int .i64 n, .bool false, .int .i64 (-1), .map (some w.heap.size), .map (some (w.heap.size + 1)), .int .i64 0] 61)) (fun k => w.heap.size ≤ k ∧ k < w.heap.size + 3) (w.heap.size + 2) (DskV.fresh n)) := by
    have m1 := mapOf_made Tryd.prog 3 w
    have m2 := mapOf_made Tryd.prog 3 (w.alloc (.map #[] 0))
    have e1 : (w.alloc (.map #[] 0)).heap.size = w.heap.size + 1 := by simp
    have e2 : ((w.alloc (.map #[] 0)).alloc (.map #[] 0)).heap.size = w.heap.size + 2 := by simp
    have hb : ∀ k, k < w.heap.size + 2 → (((w.alloc (.map #[] 0)).alloc (.map #[] 0)).alloc (.cells #[.int .i64 n, .bool false, .int .i64 (-1), .map (some w.heap.size), .map (some (w.heap.size + 1)), .int .i64 0] 61)).heap[k]? = ((w.alloc (.map #[] 0)).alloc (.map #[] 0)).heap[k]? := fun k hk => Below.heap_alloc _ _ _ (by omega)
    refine ⟨w.heap.size, w.heap.size + 1, 0, 0, fun _ => none, fun _ => none, fresh_ok h1 h2, ?_, ⟨by omega, by omega⟩, ⟨by omega, by omega⟩, ⟨by omega, by omega⟩, fun k hk => by simp; omega, by omega, ?_, fun _ => rfl, fun i h => absurd rfl h, ?_, fun i => sftOf_nil i, fun i j g n c n' c' h => by cases h⟩
    · have := heap_alloc_new ((w.alloc (.map #[] 0)).alloc (.map #[] 0)) (.cells #[.int .i64 n, .bool false, .int .i64 (-1), .map (some w.heap.size), .map (some (w.heap.size + 1)), .int .i64 0] 61)
      rw [e2] at this
      exact this
    · exact (m1.of_block (Below.heap_alloc _ _ _ (by simp))).of_block (hb _ (by omega))
    · rw [e1] at m2
      exact m2.of_block (hb _ (by omega))
  clear h1 h2
  go_enter Tryd.func8, Tryd.ntmps8
  go_wp2
  go_ret2
  exact ⟨_, _, rfl, HI.out, (((Below.refl _ _).alloc (Nat.le_refl _) _).alloc (by simp) _).alloc (by simp; omega) _, fun k hk => hk.1⟩

theorem size_nil (w : World) : Calls Tryd.prog 24 #[.pointer none] w fun e w' => e = .returned (.int .i64 0) ∧ w = w' := by
  go_enter Tryd.func24, Tryd.ntmps24
  go_wp2
  go_ret
  exact ⟨rfl, rfl⟩
theorem soft_nil (w : World) : Calls Tryd.prog 17 #[.pointer none] w fun e w' => e = .returned (.int .i64 0) ∧ w = w' := by
  go_enter Tryd.func17, Tryd.ntmps17
  go_wp2
  go_ret
  exact ⟨rfl, rfl⟩
section
variable {w : World} {F : Nat → Prop} {b : Nat} {D : DskV}
theorem size_any (h : IsDsk w F b D) : Calls Tryd.prog 24 #[.pointer (some ⟨b, 0, none⟩)] w fun e w' => e = .returned (.int .i64 D.size) ∧ w = w' := by
  obtain ⟨mf, ms, nf, ns, ff, fs, h⟩ := h
  have c0 := h.c0
  clear h
  go_enter Tryd.func24, Tryd.ntmps24
  go_wp2
  go_ret
  exact ⟨rfl, rfl⟩
theorem soft_any (h : IsDsk w F b D) : Calls Tryd.prog 17 #[.pointer (some ⟨b, 0, none⟩)] w fun e w' => e = .returned (.int .i64 (D.soft.length : Int)) ∧ w = w' := by
  obtain ⟨mf, ms, nf, ns, ff, fs, h⟩ := h
  have c0 := h.c5
  clear h
  go_enter Tryd.func17, Tryd.ntmps17
  go_wp2
  go_ret
  exact ⟨rfl, rfl⟩
end
/-- Why a sector can't be read, nor written to; an error of that number. -/
def DskV.why (D : DskV) (i : Int) : Int := if D.down then 11 else if i < 0 ∨ D.size ≤ i then 1 else 0
def errV (n : Int) : Value := if n = 0 then .nilIface else .iface 57 (.int .i64 n)
theorem reach_nil (i : Int) (w : World) : Calls Tryd.prog 27 #[.pointer none, .int .i64 i] w fun e w' => e = .returned (errV 1) ∧ w = w' := by
  go_enter Tryd.func27, Tryd.ntmps27
  go_wp2
  go_ret
  exact ⟨rfl, rfl⟩
theorem reach_any {w : World} {F : Nat → Prop} {b : Nat} {D : DskV} (h : IsDsk w F b D) (i : Int) : Calls Tryd.prog 27 #[.pointer (some ⟨b, 0, none⟩), .int .i64 i] w fun e w' => e = .returned (errV (D.why i)) ∧ w = w' := by
  obtain ⟨mf, ms, nf, ns, ff, fs, h⟩ := h
  have c0 := h.c0
  have c1 := h.c1
  clear h
  obtain ⟨n, hn⟩ : ∃ n, D.why i = n := ⟨_, rfl⟩
  rw [hn]
  unfold DskV.why at hn
  have HN := Lib.hid hn
  clear hn
  cases hd : D.down with
  | true =>
    rw [hd] at c1
    have hn := HN.out
    simp only [hd, if_true] at hn
    subst hn
    clear HN
    go_enter Tryd.func27, Tryd.ntmps27
    go_wp2
    go_ret
    exact ⟨rfl, rfl⟩
  | false =>
    rw [hd] at c1
    have hn := HN.out
    simp only [hd, Bool.false_eq_true, if_false] at hn
    clear HN
    by_cases h0 : i < 0
    · rw [if_pos (.inl h0)] at hn
      subst hn
      go_enter Tryd.func27, Tryd.ntmps27
      go_wp2
      go_ret
      exact ⟨rfl, rfl⟩
    · by_cases h1 : D.size ≤ i
      · rw [if_pos (.inr h1)] at hn
        subst hn
        go_enter Tryd.func27, Tryd.ntmps27
        go_wp2
        go_ret
        exact ⟨rfl, rfl⟩
      · rw [if_neg (by omega)] at hn
        subst hn
        go_enter Tryd.func27, Tryd.ntmps27
        go_wp2
        go_ret
        exact ⟨rfl, rfl⟩
/-- The i-th of a row of writes lies there. -/
theorem row_at {w : World} {B g n cap : Nat} {l : List WrL} (h64 : ∀ x ∈ l, x.2.length = 64) (h : w.ownsRow B 70 65 (.slice (some ⟨g, 0, none⟩) n cap) n (l.flatMap wCells)) {j : Nat} {x : WrL} (hx : l[j]? = some x) : w.rangeAt g (j * 65) (wCells x) ∧ j < n ∧ w.there g (j * 65) 65 := by
  have hC : ∀ x ∈ l, (wCells x).length = 65 := fun x hx => wCells_len (h64 x hx)
  obtain ⟨hl, ⟨h2, _⟩ | ⟨g', cap', cur, h2, _, hb, hcap, _, hsz, ht⟩⟩ := h
  · cases h2
  · cases h2
    have hjl : j < l.length := (List.getElem?_eq_some_iff.1 hx).1
    have hlen : l.length = n := by
      have := flat_len l hC
      omega
    have hx65 := hC x (List.mem_of_getElem? hx)
    have hcs : cur.size = cap * 65 := hsz
    have h3 : (j + 1) * 65 ≤ cap * 65 := Nat.mul_le_mul_right _ (by omega)
    have h5 : (j + 1) * 65 = j * 65 + 65 := Nat.succ_mul j 65
    refine ⟨fun i u hu => ?_, by omega, fun i hi => ?_⟩
    · have hi : i < 65 := by have := (List.getElem?_eq_some_iff.1 hu).1; omega
      have h4 := flat_at l hC j i x u hx hu
      have h6 := congrArg (·[j * 65 + i]?) ht
      have h7 : j * 65 + i < n * 65 := by
        have : (j + 1) * 65 ≤ n * 65 := Nat.mul_le_mul_right _ (by omega)
        omega
      simp only [List.getElem?_take, if_pos h7, h4, Array.getElem?_toList] at h6
      simp [World.cell?, hb, h6]
    · have h8 : j * 65 + i < cur.size := by omega
      simp [World.cell?, World.frozen?, hb, Array.getElem?_eq_getElem h8]
end Go.Proofs.YtpimclhdimcioaaDoor
