/-
  The law CodeSizes, walked: for every two numbers it returns true and changes nothing that was there. No condition.
-/
import Derived.Test.YtnoihgdnpdnknaaS4Awake
import Derived.Lib.Strings
namespace Go.Proofs.Ytnoihgdnpdnknaa
open Go.RowKit

theorem numB_eq (x : Nat) : ((numB x).toList == (numB x).toList) = true := by simp
theorem numB_ne {x y : Nat} (h : x ≠ y) : ((numB x).toList == (numB y).toList) = false := by
  rw [beq_eq_false_iff_ne]
  intro e
  rw [Lib.toList_data, Lib.toList_data, numB_list, numB_list] at e
  exact h (dg_inj e)
theorem numB_head {x y : Nat} (h : x ≠ y) : (((numB y).extract 0 (numB x).size).toList == (numB x).toList) = false := by
  rw [beq_eq_false_iff_ne]
  intro e
  rw [Lib.toList_data, Lib.toList_data, Lib.extract_data, numB_list, numB_list, List.drop_zero] at e
  have e2 : dg y = dg x ++ (dg y).drop ((numB x).size - 0) := by
    rw [← e, List.take_append_drop]
  exact h (dg_cut x y ((dg y).drop ((numB x).size - 0)) [] (by rw [List.append_nil]; exact e2.symm)).1

set_option maxRecDepth 10000 in
set_option maxHeartbeats 2000000 in
theorem sizes_any (a b : Int) (w : World) :
    Calls Try.prog 3 #[.int .i64 a, .int .i64 b] w fun e w' => e = .returned (.bool true) ∧ Below w.heap.size w w' := by
  obtain ⟨x, hx, hx1⟩ := low62 a
  obtain ⟨y, hy, hy1⟩ := low62 b
  have HX := Lib.hid hx1
  have HY := Lib.hid hy1
  clear hx1 hy1
  have HNE := Lib.hid (fun h : x ≠ y => numB_ne h)
  have HHD := Lib.hid (fun h : x ≠ y => numB_head h)
  have HMO := Lib.hid (dg_mono x y)
  have HP := Lib.hid (numB_size_pos x)
  have H9 := Lib.hid (numB_size_nine (n := x) (by have := HX.out; omega))
  have H9y := Lib.hid (numB_size_nine (n := y) (by have := HY.out; omega))
  go_enter Try.func3, Try.ntmps3
  go_wp2_with fail
  refine (num_any x (by have := HX.out; omega) _).mono ?_
  rintro e w1 ⟨rfl, hb1⟩
  have HB1 := Lib.hid hb1
  clear hb1
  go_wp2_with fail
  refine (num_any y (by have := HY.out; omega) _).mono ?_
  rintro e w2 ⟨rfl, hb2⟩
  have HB2 := Lib.hid (HB1.out.trans (hb2.mono HB1.out.size))
  clear hb2 hx hy
  go_wp2_with fail
  refine (awake_any _).mono ?_
  rintro e w3 ⟨rfl, hb3⟩
  have HB3 := Lib.hid (HB2.out.trans (hb3.mono HB2.out.size))
  clear hb3
  have hmo : x ≤ y → (numB x).size ≤ (numB y).size := HMO.out
  have hp := HP.out
  have h9 := H9.out
  have h9y := H9y.out
  have c1 : ¬ ((numB x).size : Int) < 1 := by omega
  have c2 : ¬ (9 : Int) < ((numB x).size : Int) := by omega
  by_cases hxy : x = y
  · subst hxy
    have hq := numB_eq x
    have c4 : ¬ ((numB x).size : Int) < ((numB x).size : Int) := by omega
    clear hmo hp
    go_wp2
    go_ret
    exact ⟨rfl, HB3.out⟩
  · have hq := HNE.out hxy
    have hh := HHD.out hxy
    have c5 : ((x : Int) == (y : Int)) = false := by simp; omega
    by_cases hle : x ≤ y
    · have c6 : (x : Int) ≤ (y : Int) := by omega
      have c4 : ¬ ((numB y).size : Int) < ((numB x).size : Int) := by have := hmo hle; omega
      by_cases hge : (numB y).size ≤ (numB x).size
      · have c7 : ((numB y).size : Int) ≤ ((numB x).size : Int) := by omega
        clear hmo hp hle hge
        go_wp2
        go_ret
        exact ⟨rfl, HB3.out⟩
      · have c7 : ¬ ((numB y).size : Int) ≤ ((numB x).size : Int) := by omega
        clear hmo hp hle
        go_wp2
        go_ret
        exact ⟨rfl, HB3.out⟩
    · have c6 : ¬ (x : Int) ≤ (y : Int) := by omega
      by_cases hge : (numB y).size ≤ (numB x).size
      · have c7 : ((numB y).size : Int) ≤ ((numB x).size : Int) := by omega
        clear hmo hp hle hge
        go_wp2
        go_ret
        exact ⟨rfl, HB3.out⟩
      · have c7 : ¬ ((numB y).size : Int) ≤ ((numB x).size : Int) := by omega
        clear hmo hp hle
        go_wp2
        go_ret
        exact ⟨rfl, HB3.out⟩
end Go.Proofs.Ytnoihgdnpdnknaa
