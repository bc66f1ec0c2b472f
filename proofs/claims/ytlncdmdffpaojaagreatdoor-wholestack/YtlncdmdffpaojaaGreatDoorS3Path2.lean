/-
  Contracts of path.Split. Conditions: a text's size fits an int.
-/
import Derived.Test.YtlncdmdffpaojaaGreatDoorS3Path
import Derived.Test.YtlncdmdffpaojaaGreatDoorS3ParG
namespace Go.Proofs.YtlncdmdffpaojaaGreatDoor
open Go.RowKit

set_option maxHeartbeats 2000000 in
theorem split_good (p : ByteArray) (hP : isP p.data.toList) (w : World) :
    Calls Tryz.prog 51 #[.string p] w fun e w' => ∃ a cap, e = .returned (.tuple #[.slice a (prts p).length cap, .nilIface]) ∧ Row w' a cap (prts p) ∧ Below w.heap.size w w' := by
  have hlen := isP_len3 hP
  rw [← Lib.size_eq] at hlen
  have d1 : ¬ dp p.data.toList < 0 := fun h => dp_lt.1 h hP
  obtain ⟨m1, hm1⟩ : ∃ m, dp p.data.toList = m := ⟨_, rfl⟩
  rw [hm1] at d1
  have HM1 := Lib.hid hm1
  have HZ := Lib.hid (show p.size ≤ 9223372036854775807 by omega)
  have HP := Lib.hid hP
  have H6 := Lib.hid (show (prts p).length ≤ 6 by simp [prts]; exact hP.2.1)
  clear hm1 hP hlen
  go_enter Tryz.func51, Tryz.ntmps51
  go_wp2_with fail
  refine (deep_any p HZ.out _).mono ?_
  rintro e w1 ⟨rfl, hb⟩
  rw [HM1.out]
  have HB := Lib.hid hb
  clear hb
  go_wp2_with fail
  refine (parts_any p w1).mono ?_
  rintro e w2 ⟨rfl, hw⟩
  have HW := Lib.hid hw
  clear hw
  have HB2 := Lib.hid (show Below w.heap.size w w2 from HW.out ▸ HB.out.alloc HB.out.size _)
  have H1 := Lib.hid (show w1.heap.size < w2.heap.size by rw [← HW.out]; simp)
  have H2 := Lib.hid (show w2.cell? ⟨w1.heap.size, 0, none⟩ = some (.string p) by rw [← HW.out]; exact (Boxed.new w1 9 (.string p)).cell)
  go_wp2_with fail
  refine (collect_parts p HP.out.1 HZ.out H6.out w1.heap.size w2 H1.out H2.out).mono ?_
  rintro e w3 ⟨v, rfl, hr, _, hb⟩
  obtain ⟨a, cap, rfl, hrow⟩ := row_of_owns hr
  have HR := Lib.hid hrow
  have HB3 := Lib.hid (HB2.out.trans (hb.mono HB2.out.size))
  clear hr hrow hb
  go_wp2
  go_ret2
  exact ⟨a, cap, rfl, HR.out, HB3.out⟩

set_option maxHeartbeats 2000000 in
theorem split_bad (p : ByteArray) (hz : p.size ≤ 9223372036854775807) (h : ¬ isP p.data.toList) (w : World) :
    Calls Tryz.prog 51 #[.string p] w fun e w' => ∃ er, e = .returned (.tuple #[.slice none 0 0, er]) ∧ IsErr w' 2 er ∧ Below w.heap.size w w' := by
  have d1 : dp p.data.toList < 0 := dp_lt.2 h
  obtain ⟨m1, hm1⟩ : ∃ m, dp p.data.toList = m := ⟨_, rfl⟩
  rw [hm1] at d1
  have HM1 := Lib.hid hm1
  have HZ := Lib.hid hz
  clear hm1 h hz
  go_enter Tryz.func51, Tryz.ntmps51
  go_wp2_with fail
  refine (deep_any p HZ.out _).mono ?_
  rintro e w1 ⟨rfl, hb⟩
  rw [HM1.out]
  have HB := Lib.hid hb
  clear hb
  go_wp2_with fail
  refine (at_iface _ p 51 (.int .i64 2) w1).mono ?_
  rintro e w2 ⟨rfl, hw⟩
  have HC := Lib.hid (chain_at (w := w1) (n := 2) (l := []) (u := 51) (y := .int .i64 2) rfl ⟨#[115, 112, 108, 105, 116]⟩ p)
  have HW := Lib.hid hw
  clear hw
  go_wp2
  go_ret2
  exact ⟨_, rfl, ⟨_, HW.out ▸ HC.out⟩, HW.out ▸ HB.out.alloc HB.out.size _⟩
end Go.Proofs.YtlncdmdffpaojaaGreatDoor
