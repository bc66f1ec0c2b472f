/-
  An error of a number, wrapped or not, or nil, as a value: fail.Code of it; what a walk carries from world to world. Condition: errorType holds error's type.
-/
import Derived.Test.YtgpipljhpkhffaaDoorIsErr
import Derived.Test.YtgpipljhpkhffaaDoorErrV
import Derived.Test.YtgpipljhpkhffaaDoorPc
namespace Go.Proofs.YtgpipljhpkhffaaDoor
open Go.RowKit

/-- An error of a number, wrapped or not; nil, if it is 0. -/
def Er (w : World) (n : Int) (v : Value) : Prop := (n = 0 ∧ v = .nilIface) ∨ (n ≠ 0 ∧ IsErr w n v)
theorem Er.below {w w' : World} {n : Int} {v : Value} (h : Er w n v) (hb : Below w.heap.size w w') : Er w' n v := h.imp_right fun ⟨a, b⟩ => ⟨a, b.below hb⟩
theorem er_nil (w : World) : Er w 0 .nilIface := .inl ⟨rfl, rfl⟩
theorem code_er (n : Int) (v : Value) (w : World) (h : Er w n v) (hg : EtLaid w) : Calls Tryd.prog 10 #[v] w fun e w' => e = .returned (.int .i64 n) ∧ Below w.heap.size w w' := by
  rcases h with ⟨rfl, rfl⟩ | ⟨_, h⟩
  · refine (code_zero w).mono ?_
    rintro e w' ⟨rfl, rfl⟩
    exact ⟨rfl, Below.refl _ _⟩
  · exact code_isErr n v w h hg
/-- What was there when the call began is as it was; errorType holds error's type. -/
structure St (W w : World) : Prop where
  below : Below W.heap.size W w
  et : EtLaid w
theorem st_self {w : World} (h : EtLaid w) : St w w := ⟨Below.refl _ _, h⟩
theorem St.next {W w w' : World} (h : St W w) (hb : Below w.heap.size w w') : St W w' := ⟨h.below.trans (hb.mono h.below.size), h.et.below h.et.lt hb⟩
theorem St.old {W w w' : World} (h : St W w) (hb : OldC w w') : St W w' := h.next hb
end Go.Proofs.YtgpipljhpkhffaaDoor
