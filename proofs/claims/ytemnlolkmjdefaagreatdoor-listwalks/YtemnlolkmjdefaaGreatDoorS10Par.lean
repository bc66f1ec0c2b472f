/-
  The contract of path.Parent of any path, the root among them. Condition: it is a path.
-/
import Derived.Test.YtemnlolkmjdefaaGreatDoorPb
import Derived.Test.YtemnlolkmjdefaaGreatDoorS3ParG
import Derived.Lib.Hide
namespace Go.Proofs.YtemnlolkmjdefaaGreatDoor
open Go.RowKit

theorem at10 (o p : ByteArray) (u : TypeId) (y : Value) (w : World) : Calls Tryz.prog 38 #[.string o, .string p, .iface u y] w
    fun e w' => e = .returned (.iface 112 (.pointer (some ⟨w.heap.size, 0, none⟩))) ∧ Below w.heap.size w w' := by
  go_enter Tryz.func38, Tryz.ntmps38
  go_wp2
  go_ret
  exact ⟨rfl, (Below.refl _ _).alloc (Nat.le_refl _) _⟩
set_option maxHeartbeats 2000000 in
/-- Parent of the root. -/
theorem parRoot10 (w : World) : Calls Tryz.prog 20 #[.string ⟨#[47]⟩] w fun e w' => ∃ u y, e = .returned (.tuple #[.string ⟨#[]⟩, .string ⟨#[]⟩, .iface u y]) ∧ Below w.heap.size w w' := by
  go_enter Tryz.func20, Tryz.ntmps20
  go_wp2_with fail
  refine (deep_any ⟨#[47]⟩ (by decide) _).mono ?_
  rintro e w1 ⟨rfl, hb⟩
  rw [show dp (⟨#[47]⟩ : ByteArray).data.toList = 0 by decide]
  have HB := Lib.hid hb
  clear hb
  go_wp2_with fail
  refine (at10 _ _ _ _ w1).mono ?_
  rintro e w2 ⟨rfl, hb⟩
  have HB2 := Lib.hid (HB.out.trans (hb.mono HB.out.size))
  clear hb
  go_wp2
  go_ret3
  exact ⟨_, _, rfl, HB2.out⟩
/-- Parent of a path: its directory; of the root an error. -/
theorem par10 (p : ByteArray) (hP : isP p.data.toList) (w : World) : Calls Tryz.prog 20 #[.string p] w fun e w' => ∃ d n er, e = .returned (.tuple #[.string d, .string n, er]) ∧ ((p.data.toList = [47] ∧ ∃ u y, er = .iface u y) ∨ (p.data.toList ≠ [47] ∧ er = .nilIface ∧ d.data.toList = par9 p.data.toList)) ∧ Below w.heap.size w w' := by
  by_cases h : p.data.toList = [47]
  · obtain rfl : p = ⟨#[47]⟩ := ba_ext h
    refine (parRoot10 w).mono ?_
    rintro e w' ⟨u, y, rfl, hb⟩
    exact ⟨_, _, _, rfl, .inl ⟨rfl, u, y, rfl⟩, hb⟩
  · obtain ⟨ms, x, _, a2, _, a4, a5⟩ := par9_parts hP h
    refine (parent_good p ms x hP a2 a4 h w).mono ?_
    rintro e w' ⟨d, n, rfl, h1, _, hb⟩
    exact ⟨d, n, _, rfl, .inr ⟨h, rfl, by rw [h1, a5]⟩, hb⟩
end Go.Proofs.YtemnlolkmjdefaaGreatDoor
