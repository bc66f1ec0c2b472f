/-
  Contracts of package fail over an error chain: Code, Is, At; of awake; of Errno's text. Conditions: the chain lies in memory; errorType holds error's type.
-/
import Derived.Test.YtlnjbadbpddlmaaDoorAs
import Derived.Lib.Hide
namespace Go.Proofs.YtlnjbadbpddlmaaDoor
open Go.RowKit Go.Extern.Stop Go.Stop Go.Extern

theorem bcell {W w1 : World} (hb : Below W.heap.size W w1) : (∀ b o, b < W.heap.size → w1.cell? ⟨b, o, none⟩ = W.cell? ⟨b, o, none⟩) ∧ (∀ b o, b < W.heap.size → w1.frozen? ⟨b, o, none⟩ = W.frozen? ⟨b, o, none⟩) :=
  ⟨fun b o h => hb.cell (p := ⟨b, o, none⟩) h, fun b o h => hb.frozen (p := ⟨b, o, none⟩) h⟩

theorem cell_set {w : World} {a : Addr} {u : Value} (h : w.cell? a = some u) (v : Value) : (w.setCell a v).cell? a = some v := World.cell?_setCell_same _ _ _ h

/-- errors.As at a chain, an Errno sought: found; what was there is as it was, but the variable. -/
theorem asNo_below /- of a Fault, 105 -/ (l : List (ByteArray × ByteArray)) (n : Int) (v : Value) (t : Addr) (old : Value) (w : World) (hch : Chain w n l v) (hg : EtLaid w) (ht : w.cell? t = some old) (hf : w.frozen? t = false) :
    Calls Tryd.prog 23 #[v, .iface 54 (.pointer (some t))] w fun ev w' => ev = .returned (.bool true) ∧ ∃ w1, Below w.heap.size w w1 ∧ w1.setCell t (.int .i64 n) = w' :=
  (asNo l n v t old w hch hg ht hf).mono fun _ _ ⟨he, hw⟩ => ⟨he, _, ((((Below.refl _ _).alloc (Nat.le_refl _) _).alloc (by simp) _).alloc (by simp; omega) _).alloc (by simp; omega) _, hw⟩

set_option maxHeartbeats 1000000 in
theorem code_chain /- of a Fault, 105 -/ (l : List (ByteArray × ByteArray)) (n : Int) (v : Value) (w : World) (hch : Chain w n l v) (hg : EtLaid w) :
    Calls Tryd.prog 11 #[v] w fun e w' => e = .returned (.int .i64 n) ∧ Below w.heap.size w w' := by
  have hb0 : Below w.heap.size w (w.alloc (.cells #[.int .i64 0] 46)) := (Below.refl _ _).alloc (Nat.le_refl _) _
  have HC := Lib.hid (asNo_below l n v ⟨w.heap.size, 0, none⟩ (.int .i64 0) (w.alloc (.cells #[.int .i64 0] 46)) (hch.below hb0) (hg.below hg.lt hb0) (by simp) (by simp))
  have HB0 := Lib.hid hb0
  obtain ⟨u, y, rfl⟩ := hch.iface
  clear hch hg hb0
  go_enter Tryd.func11, Tryd.ntmps11
  go_wp2_with fail
  refine HC.out.mono ?_
  rintro e w' ⟨rfl, w1, hb1, rfl⟩
  have hc : w1.cell? ⟨w.heap.size, 0, none⟩ = some (.int .i64 0) := (hb1.cell (p := ⟨w.heap.size, 0, none⟩) (by simp)).trans (by simp)
  have hc1 := cell_set hc (.int .i64 n)
  have HB1 := Lib.hid hb1
  clear hb1 hc
  go_wp2
  go_ret
  exact ⟨rfl, (HB0.out.trans (HB1.out.mono (by simp))).setCell (Nat.le_refl _) _⟩

theorem code_nil (w : World) : Calls Tryd.prog 11 #[.nilIface] w fun e w' => e = .returned (.int .i64 0) ∧ w = w' := by
  go_enter Tryd.func11, Tryd.ntmps11
  go_wp2
  go_ret
  exact ⟨rfl, rfl⟩

theorem at_nil (o p : ByteArray) (w : World) : Calls Tryd.prog 44 #[.string o, .string p, .nilIface] w fun e w' => e = .returned .nilIface ∧ w = w' := by
  go_enter Tryd.func44, Tryd.ntmps44
  go_wp2
  go_ret
  exact ⟨rfl, rfl⟩

theorem at_iface (o p : ByteArray) (u : TypeId) (y : Value) (w : World) : Calls Tryd.prog 44 #[.string o, .string p, .iface u y] w
    fun e w' => e = .returned (.iface 105 (.pointer (some ⟨w.heap.size, 0, none⟩))) ∧ w.alloc (.cells #[.string o, .string p, .iface u y] 107) = w' := by
  go_enter Tryd.func44, Tryd.ntmps44
  go_wp2
  go_ret
  exact ⟨rfl, rfl⟩

theorem chain_at /- of a Fault, 105 -/ {w : World} {n : Int} {l : List (ByteArray × ByteArray)} {u : TypeId} {y : Value} (h : Chain w n l (.iface u y)) (o p : ByteArray) :
    Chain (w.alloc (.cells #[.string o, .string p, .iface u y] 107)) n ((o, p) :: l) (.iface 105 (.pointer (some ⟨w.heap.size, 0, none⟩))) :=
  ⟨w.heap.size, .iface u y, rfl, by simp, by simp, by simp, by simp, h.below ((Below.refl _ _).alloc (Nat.le_refl _) _)⟩
end Go.Proofs.YtlnjbadbpddlmaaDoor
