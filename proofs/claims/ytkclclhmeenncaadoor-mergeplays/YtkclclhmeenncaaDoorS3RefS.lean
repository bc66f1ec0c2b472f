/-
  The contract of the document's own Split (package shaleref03): a path's names. Condition: the text has at most 100000 bytes.
-/
import Derived.Test.YtkclclhmeenncaaDoorS3Ref
namespace Go.Proofs.YtkclclhmeenncaaDoor
open Go.RowKit

/-- a path's names; none of what is no path -/
def names (p : ByteArray) : List ByteArray := if isP p.data.toList then prts p else []
theorem names_pos {p : ByteArray} (h : isP p.data.toList) : names p = prts p := if_pos h
theorem names_neg {p : ByteArray} (h : ¬ isP p.data.toList) : names p = [] := if_neg h
theorem row_nil (w : World) (a : Option Addr) (cap : Nat) : Row w a cap [] := ⟨by simp, .inl rfl⟩
theorem names_len (p : ByteArray) : (names p).length ≤ 6 := by
  by_cases h : isP p.data.toList
  · rw [names_pos h]
    simpa [prts] using h.2.1
  · rw [names_neg h]
    simp

set_option maxHeartbeats 2000000 in
theorem refSplit_any (p : ByteArray) (hz : p.size ≤ 100000) (w : World) :
    Calls Tryd.prog 30 #[.string p] w fun e w' => ∃ a cap, e = .returned (.tuple #[.slice a (names p).length cap, .bool (decide (isP p.data.toList))]) ∧ Row w' a cap (names p) ∧ Below w.heap.size w w' := by
  by_cases h47 : p.data.toList = [47]
  · obtain rfl := of_data h47
    have hn : names (⟨[47].toArray⟩ : ByteArray) = [] := by decide
    have hP : decide (isP (⟨[47].toArray⟩ : ByteArray).data.toList) = true := by decide
    rw [hn, hP]
    go_enter Tryd.func30, Tryd.ntmps30
    go_wp2
    go_ret2
    exact ⟨none, 0, rfl, row_nil _ _ _, Below.refl _ _⟩
  · by_cases hh : p.data.toList.head? = some 47
    · refine (refSplit_slash p hz hh h47 w).mono ?_
      rintro e w' ⟨⟨hP, a, cap, he, hr⟩ | ⟨hP, he⟩, hb⟩
      · rw [names_pos hP, decide_eq_true hP]
        exact ⟨a, cap, he, hr, hb⟩
      · rw [names_neg hP, decide_eq_false hP]
        exact ⟨none, 0, he, row_nil _ _ _, hb⟩
    · have hP : ¬ isP p.data.toList := fun h => hh h.1
      rw [names_neg hP, decide_eq_false hP]
      have hs' : (p.toList == [47]) = false := by rw [eq_slash]; simpa using h47
      by_cases h0 : p.size = 0
      · have hp : p = ⟨#[]⟩ := by
          have : p.data.toList = [] := List.length_eq_zero_iff.1 (by rw [← Lib.size_eq]; exact h0)
          rw [← Lib.mk_data p, this]
        subst hp
        go_enter Tryd.func30, Tryd.ntmps30
        go_wp2
        go_ret2
        exact ⟨none, 0, rfl, row_nil _ _ _, Below.refl _ _⟩
      · have hpos : 0 < p.size := by omega
        have hn0 : ((p.size : Int) == 0) = false := by rw [beq_eq_false_iff_ne]; omega
        have hc0 : (((p[0]'hpos).toNat : Int) != 47) = true := by
          rw [bne_iff_ne]
          intro e
          refine hh ?_
          have h1 := at_eq p 0 hpos
          rw [List.head?_eq_getElem?, h1]
          congr 1
          apply UInt8.toNat_inj.1
          show _ = 47
          omega
        have hc1 : ¬ ((p[0]'hpos).toNat : Int) = 47 := by simpa using hc0
        clear hh hP h47
        go_enter Tryd.func30, Tryd.ntmps30
        go_wp2
        go_ret2
        exact ⟨none, 0, rfl, row_nil _ _ _, Below.refl _ _⟩
end Go.Proofs.YtkclclhmeenncaaDoor
