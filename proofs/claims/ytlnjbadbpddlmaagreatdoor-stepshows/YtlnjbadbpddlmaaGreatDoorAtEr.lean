/-
  fail.At of an error of a number, or of nil. No condition.
-/
import Derived.Test.YtlnjbadbpddlmaaGreatDoorPd
import Derived.Test.YtlnjbadbpddlmaaGreatDoorFail
namespace Go.Proofs.YtlnjbadbpddlmaaGreatDoor
open Go.RowKit

theorem er_no11 (w : World) (n : Int) (h : n ≠ 0) : Er w n (.iface 43 (.int .i64 n)) := .inr ⟨h, isErr_no w n⟩
theorem at_er (o p : ByteArray) (n : Int) (v : Value) (w : World) (h : Er w n v) : Calls Tryz.prog 53 #[.string o, .string p, v] w fun e w' => ∃ v', e = .returned v' ∧ Er w' n v' ∧ Below w.heap.size w w' := by
  rcases h with ⟨rfl, rfl⟩ | ⟨h0, h⟩
  · refine (at_nil o p w).mono ?_
    rintro e w' ⟨rfl, rfl⟩
    exact ⟨_, rfl, er_nil _, Below.refl _ _⟩
  · obtain ⟨u, y, rfl⟩ := h.iface
    obtain ⟨l, hl⟩ := h
    refine (at_iface o p u y w).mono ?_
    rintro e w' ⟨rfl, rfl⟩
    exact ⟨_, rfl, .inr ⟨h0, _, chain_at hl o p⟩, (Below.refl _ _).alloc (Nat.le_refl _) _⟩
end Go.Proofs.YtlnjbadbpddlmaaGreatDoor
