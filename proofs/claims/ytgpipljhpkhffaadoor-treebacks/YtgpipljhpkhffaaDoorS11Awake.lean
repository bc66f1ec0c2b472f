/-
  What the statements of layer 11 share: the document's example. Conditions: package tree answers as Tree11 says; errorType holds error's type.
-/
import Derived.Test.YtgpipljhpkhffaaDoorS11Spec
namespace Go.Proofs.YtgpipljhpkhffaaDoor
open Go.RowKit

theorem ex11a : mkV [] ⟨#[47, 97, 47, 98]⟩ 1 = (3, []) := by decide +kernel
theorem ex11b : mkV [] ⟨#[47, 97]⟩ 1 = (0, [(⟨#[47, 97]⟩, 1, ⟨#[]⟩)]) := by decide +kernel
set_option maxRecDepth 10000 in
theorem awake11 (L : Tree11) (w : World) (hg : EtLaid w) : Calls Tryd.prog 6 #[] w fun e w' => e = .returned (.bool true) ∧ Below w.heap.size w w' := by
  have HS0 := Lib.hid (st_self hg)
  clear hg
  have HA := Lib.hid (L.create [] none 0 ⟨#[47, 97, 47, 98]⟩ w HS0.out.et (ents_nil _ _ _) treeL_nil (by simp) (by decide))
  rw [ex11a] at HA
  have HB := Lib.hid (fun W h => L.create [] none 0 ⟨#[47, 97]⟩ W h (ents_nil _ _ _) treeL_nil (by simp) (by decide))
  rw [ex11b] at HB
  go_enter Tryd.func6, Tryd.ntmps6
  go_wp2_with fail
  refine HA.out.mono ?_
  rintro e w1 ⟨a1, c1, er1, rfl, _, h1, hb⟩
  have HS1 := Lib.hid (HS0.out.next hb)
  have HE1 := Lib.hid h1
  clear h1 hb
  go_wp2_with fail
  refine (HB.out _ HS1.out.et).mono ?_
  rintro e w2 ⟨a2, c2, er2, rfl, _, h2, hb⟩
  have HS2 := Lib.hid (HS1.out.next hb)
  have HE2 := Lib.hid h2
  replace HE1 := Lib.hid (HE1.out.below hb)
  clear h2 hb
  go_wp2_with fail
  refine (code_er _ _ _ HE1.out HS2.out.et).mono ?_
  rintro e w3 ⟨rfl, hb⟩
  have HS3 := Lib.hid (HS2.out.next hb)
  replace HE2 := Lib.hid (HE2.out.below hb)
  clear hb
  go_wp2_with fail
  refine (code_er _ _ _ HE2.out HS3.out.et).mono ?_
  rintro e w4 ⟨rfl, hb⟩
  have HS4 := Lib.hid (HS3.out.next hb)
  clear hb
  go_wp2
  go_ret
  exact ⟨by first | rfl | simp, HS4.out.below⟩
end Go.Proofs.YtgpipljhpkhffaaDoor
