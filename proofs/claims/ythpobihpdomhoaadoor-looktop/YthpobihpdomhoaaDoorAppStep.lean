/-
  Small facts for appends in a region that draws its order: what was there stays, a new block's cells stay. No condition.
-/
import Derived.Test.YthpobihpdomhoaaDoorPc
namespace Go.Proofs.YthpobihpdomhoaaDoor
open Go.RowKit

theorem ownsE_new (w : World) (B N : Nat) (hN : N = w.heap.size) (hB : B ≤ N) (e : TypeId) (size : Nat) : (w.alloc (.cells #[] e)).ownsRow B e size (.slice (some ⟨N, 0, none⟩) 0 0) 0 [] := by
  subst hN
  exact ⟨by simp, .inr ⟨w.heap.size, 0, #[], rfl, hB, heap_alloc_new w _, Nat.le_refl _, by unfold maxLen; omega, by simp, by simp⟩⟩
theorem rngE_drew {w : World} {N : Nat} {cs : List Value} (h : w.rangeAt N 0 cs) : w.drew.rangeAt N 0 cs := h
theorem rngE_alloc {w : World} {N : Nat} {cs : List Value} {o : Obj} (h : w.rangeAt N 0 cs) (hN : N < w.heap.size) : (w.alloc o).rangeAt N 0 cs := fun j v hv => (World.cell?_alloc_past _ _ _ hN).trans (h j v hv)
theorem rngE_new (w : World) (N : Nat) (hN : N = w.heap.size) (cs : List Value) (t : TypeId) : (w.alloc (.cells cs.toArray t)).rangeAt N 0 cs := fun j v hv => by
  rw [World.cell?_alloc_at _ _ _ _ hN, Nat.zero_add]
  simpa using hv
theorem rngE_one (w : World) (N : Nat) (hN : N = w.heap.size) (v : Value) (t : TypeId) : (w.alloc (.cells #[v] t)).rangeAt N 0 [v] := rngE_new w N hN [v] t
theorem grownE_step {w3 W w' : World} {B : Nat} {row : Option Nat} {G : Prop} (h : Below B w3 W) (hg : W.grownBy w' row) (hB : B ≤ W.heap.size) (hr : ∀ k, row = some k → B ≤ k) (k : Below B w3 w' → B ≤ w'.heap.size → G) : G :=
  k (h.grown hg hB hr) (Nat.le_trans hB hg.size)
theorem rngE_step {W w' : World} {row : Option Nat} {N : Nat} {cs : List Value} {G : Prop} (h : W.rangeAt N 0 cs) (hg : W.grownBy w' row) (hN : N < W.heap.size) (hr : some N ≠ row) (k : w'.rangeAt N 0 cs → N < w'.heap.size → G) : G :=
  k (fun j u hu => by
    rw [World.cell?_of_block (w := W) (hg.block N hN hr)]
    exact h j u hu) (Nat.lt_of_lt_of_le hN hg.size)
theorem srcE_some {w : World} {N : Nat} {cs : List Value} {ad : Addr} (e : some (⟨N, 0, none⟩ : Addr) = some ad) (h : w.rangeAt N 0 cs) : ∀ j u, cs[j]? = some u → w.cell? (ad.add j) = some u := by
  cases e
  intro j u hu
  rw [Addr.add_lit]
  exact h j u hu
end Go.Proofs.YthpobihpdomhoaaDoor
