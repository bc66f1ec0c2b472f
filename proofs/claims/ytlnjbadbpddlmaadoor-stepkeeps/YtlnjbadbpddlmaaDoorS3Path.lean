/-
  Contracts of path.Parent and Split for every text. Conditions: a text's size fits an int; for errors, what fail.Code asks.
-/
import Derived.Test.YtlnjbadbpddlmaaDoorS3Collect
import Derived.Test.YtlnjbadbpddlmaaDoorPa
import Derived.Test.YtlnjbadbpddlmaaDoorFail
import Derived.StillTailTactics
namespace Go.Proofs.YtlnjbadbpddlmaaDoor
open Go.RowKit

/-- an error of the number n, in memory -/
def IsErr (w : World) (n : Int) (v : Value) : Prop := ∃ l, Chain w n l v

set_option maxHeartbeats 2000000 in
theorem parent_bad (p : ByteArray) (hz : p.size ≤ 9223372036854775807) (h : ¬ isP p.data.toList) (w : World) :
    Calls Tryd.prog 29 #[.string p] w fun e w' => ∃ er, e = .returned (.tuple #[.string ⟨#[]⟩, .string ⟨#[]⟩, er]) ∧ IsErr w' 2 er ∧ Below w.heap.size w w' := by
  have d1 : dp p.data.toList < 0 := dp_lt.2 h
  obtain ⟨m1, hm1⟩ : ∃ m, dp p.data.toList = m := ⟨_, rfl⟩
  rw [hm1] at d1
  have HM1 := Lib.hid hm1
  have HZ := Lib.hid hz
  clear hm1 h hz
  go_enter Tryd.func29, Tryd.ntmps29
  go_wp2_with fail
  refine (deep_any p HZ.out _).mono ?_
  rintro e w1 ⟨rfl, hb⟩
  rw [HM1.out]
  have HB := Lib.hid hb
  clear hb
  go_wp2_with fail
  refine (at_iface _ p 46 (.int .i64 2) w1).mono ?_
  rintro e w2 ⟨rfl, hw⟩
  have HC := Lib.hid (chain_at (w := w1) (n := 2) (l := []) (u := 46) (y := .int .i64 2) rfl ⟨#[112, 97, 114, 101, 110, 116]⟩ p)
  have HW := Lib.hid hw
  clear hw
  go_wp2
  go_ret3
  exact ⟨_, rfl, ⟨_, HW.out ▸ HC.out⟩, HW.out ▸ HB.out.alloc HB.out.size _⟩

set_option maxHeartbeats 2000000 in
theorem parent_root (w : World) :
    Calls Tryd.prog 29 #[.string ⟨#[47]⟩] w fun e w' => ∃ er, e = .returned (.tuple #[.string ⟨#[]⟩, .string ⟨#[]⟩, er]) ∧ IsErr w' 1 er ∧ Below w.heap.size w w' := by
  go_enter Tryd.func29, Tryd.ntmps29
  go_wp2_with fail
  refine (deep_any ⟨#[47]⟩ (by decide) _).mono ?_
  rintro e w1 ⟨rfl, hb⟩
  rw [show dp (⟨#[47]⟩ : ByteArray).data.toList = 0 by decide]
  have HB := Lib.hid hb
  clear hb
  go_wp2_with fail
  refine (at_iface _ ⟨#[47]⟩ 46 (.int .i64 1) w1).mono ?_
  rintro e w2 ⟨rfl, hw⟩
  have HC := Lib.hid (chain_at (w := w1) (n := 1) (l := []) (u := 46) (y := .int .i64 1) rfl ⟨#[112, 97, 114, 101, 110, 116]⟩ ⟨#[47]⟩)
  have HW := Lib.hid hw
  clear hw
  go_wp2
  go_ret3
  exact ⟨_, rfl, ⟨_, HW.out ▸ HC.out⟩, HW.out ▸ HB.out.alloc HB.out.size _⟩
end Go.Proofs.YtlnjbadbpddlmaaDoor
