/-
  The contract of the document's own Less of two texts (package shaleref08), byte by byte; of Go's own order of texts. Condition: the texts' sizes fit.
-/
import Derived.Test.YtdpgdnofiepkoaaDoorS3Cut
import Derived.IntWalk
import Derived.BigQuiet
import Derived.Deep.LoopGhost
import Derived.Lib.Hide
namespace Go.Proofs.YtdpgdnofiepkoaaDoor
open Go.RowKit

theorem below_drewX {B : Nat} {a w : World} (h : Below B a w) (q : Nat) : Below B a (w.drewN q) := ⟨h.os, h.tape, h.output, h.size, h.block⟩
theorem less_nil (l : List UInt8) : Op.bytesLess l [] = false := by cases l <;> rfl
theorem less_at {a b : List UInt8} {x y : UInt8} {i : Nat} (ha : a[i]? = some x) (hb : b[i]? = some y) : Op.bytesLess (a.drop i) (b.drop i) = (decide (x < y) || (x == y && Op.bytesLess (a.drop (i + 1)) (b.drop (i + 1)))) := by
  obtain ⟨h1, e1⟩ := List.getElem?_eq_some_iff.1 ha
  obtain ⟨h2, e2⟩ := List.getElem?_eq_some_iff.1 hb
  rw [List.drop_eq_getElem_cons h1, List.drop_eq_getElem_cons h2, e1, e2]
  rfl
theorem less_end {a b : List UInt8} {i : Nat} (h : ¬ (i < a.length ∧ i < b.length)) (ha : i ≤ a.length) (hb : i ≤ b.length) : Op.bytesLess (a.drop i) (b.drop i) = decide (a.length < b.length) := by
  by_cases h2 : i < b.length
  · have h1 : a.drop i = [] := List.drop_eq_nil_iff.2 (by omega)
    rw [h1, List.drop_eq_getElem_cons h2, decide_eq_true (by omega)]
    rfl
  · rw [show b.drop i = [] from List.drop_eq_nil_iff.2 (by omega), less_nil, decide_eq_false (by omega)]
set_option maxRecDepth 10000 in
set_option maxHeartbeats 1000000 in
theorem refLess_any (a b : ByteArray) (ha : a.size ≤ 100000) (hb : b.size ≤ 100000) (w : World) : Calls Tryd.prog 18 #[.string a, .string b] w fun e w' => e = .returned (.bool (Op.bytesLess a.data.toList b.data.toList)) ∧ Below w.heap.size w w' := by
  obtain ⟨R, hR⟩ : ∃ R, Op.bytesLess a.data.toList b.data.toList = R := ⟨_, rfl⟩
  rw [hR]
  have HR := Lib.hid hR
  have HA := Lib.hid (Lib.size_eq a)
  have HB := Lib.hid (Lib.size_eq b)
  clear hR
  go_enter Tryd.func18, Tryd.ntmps18
  go_wp2
  go_loopg [5] (a.size + b.size) (fun g i wx => ∃ j : Nat, i = .int .i64 (j : Int) ∧ j + g = a.size + b.size ∧ j ≤ a.size ∧ j ≤ b.size ∧ Hid (Op.bytesLess (a.data.toList.drop j) (b.data.toList.drop j) = R ∧ Below w.heap.size w wx))
  case atStart => exact ⟨0, rfl, by omega, by omega, by omega, by simpa using HR.out, Below.refl _ _⟩
  case round =>
    obtain ⟨j, rfl, hj, hja, hjb, HI⟩ := hrel
    by_cases h1 : j < a.size
    · have h1' : (j : Int) < (a.size : Int) := by omega
      by_cases h2 : j < b.size
      · have h2' : (j : Int) < (b.size : Int) := by omega
        have hw : IntKind.i64.wrap ((j : Int) + 1) = (j : Int) + 1 := IntWalk.i64_in _ (by omega)
        have HL := Lib.hid (less_at (at_eq a j h1) (at_eq b j h2))
        by_cases he : a[j] = b[j]
        · have hne : ((a[j].toNat : Int) != (b[j].toNat : Int)) = false := by rw [he]; simp
          have HN := Lib.hid (show Op.bytesLess (a.data.toList.drop (j + 1)) (b.data.toList.drop (j + 1)) = R by
            rw [← HI.out.1, HL.out, he]
            simp)
          clear he
          go_wp2
          go_quiet (fail)
          go_wp2
          go_roundg (gk - 1)
          case measure => omega
          case rel => exact ⟨j + 1, by simp, by omega, by omega, by omega, HN.out, below_drewX HI.out.2 _⟩
        · have hne : ((a[j].toNat : Int) != (b[j].toNat : Int)) = true := by
            rw [bne_iff_ne]
            intro e
            exact he (UInt8.toNat_inj.1 (by omega))
          have HV := Lib.hid (show decide (a[j].toNat < b[j].toNat) = R by
            rw [← HI.out.1, HL.out, beq_eq_false_iff_ne.2 he, Bool.false_and, Bool.or_false]
            rw [Bool.eq_iff_iff, decide_eq_true_iff, decide_eq_true_iff, UInt8.lt_iff_toNat_lt])
          clear he
          go_wp2
          go_quiet (fail)
          go_wp2
          go_quiet (fail)
          go_wp2
          go_ret
          exact ⟨by rw [← HV.out]; rfl, below_drewX (below_drewX HI.out.2 _) _⟩
      · have h2' : ¬ (j : Int) < (b.size : Int) := by omega
        have HE := Lib.hid (less_end (a := a.data.toList) (b := b.data.toList) (i := j) (by rw [← HB.out]; omega) (by rw [← HA.out]; omega) (by rw [← HB.out]; omega))
        go_wp2
        go_ret
        exact ⟨by rw [← HI.out.1, HE.out, ← HA.out, ← HB.out]; simp, HI.out.2⟩
    · have h1' : ¬ (j : Int) < (a.size : Int) := by omega
      have HE := Lib.hid (less_end (a := a.data.toList) (b := b.data.toList) (i := j) (by rw [← HA.out]; omega) (by rw [← HA.out]; omega) (by rw [← HB.out]; omega))
      go_wp2
      go_ret
      exact ⟨by rw [← HI.out.1, HE.out, ← HA.out, ← HB.out]; simp, HI.out.2⟩
end Go.Proofs.YtdpgdnofiepkoaaDoor
