/-
  A stack of lower layers and an upper one, as layer 14's statements lay it ('with'). Conditions: the stack lies in memory, of at most 100 layers; the upper layer lies in memory.
-/
import Derived.Test.YtjliagcalbdnhaaGreatDoorStkCat
namespace Go.Proofs.YtjliagcalbdnhaaGreatDoor
open Go.RowKit

set_option maxRecDepth 10000 in
set_option maxHeartbeats 4000000 in
theorem with14 (S : List (List Ent)) (u : List Ent) (a a2 : Option Addr) (cap cap2 : Nat) (w : World) (hk : Stk w a cap S) (hu : Ents w a2 cap2 u) (hS : S.length ≤ 100) :
    Calls Tryz.prog 11 #[.slice a S.length cap, .slice a2 u.length cap2] w fun e w' => ∃ a' cap', e = .returned (.slice a' (S.length + 1) cap') ∧ Stk w' a' cap' (S ++ [u]) ∧ Below w.heap.size w w' := by
  have HK := Lib.hid hk
  have HU := Lib.hid hu
  have HL := Lib.hid hS
  clear hk hu hS
  have hbz : Below w.heap.size w (w.alloc (.cells #[] 27)) := (Below.refl _ _).alloc (Nat.le_refl _) _
  obtain ⟨hsS, HSR⟩ := src_old HK.out hbz
  go_enter Tryz.func11, Tryz.ntmps11
  go_wp2_with (at_builtin; refine Stopped.go ?_)
  unfold Stopped
  refine wl_catB (by rfl) _ _ (by rfl) w.heap.size w _ [] S [] (by rfl) (ownsE_new w w.heap.size w.heap.size rfl (Nat.le_refl _) 27 1) ⟨rfl, by simp⟩ hbz.size a cap (by rfl) hsS HSR (by have := HL.out; simp; omega) ?_
  intro va wa hoa hda hga
  have HBA := Lib.hid (hbz.grown hga hbz.size fun k hk => by
    obtain rfl : w.heap.size = k := by simpa [Value.ownBlock] using hk
    exact Nat.le_refl _)
  have HOA := Lib.hid hoa
  have HDA := Lib.hid hda
  clear hbz HSR hoa hga hda
  go_wp2_with (at_builtin; refine Stopped.go ?_)
  unfold Stopped
  have hbh : Below wa.heap.size wa (wa.alloc (.cells #[.slice a2 u.length cap2] 27)) := (Below.refl _ _).alloc (Nat.le_refl _) _
  have hblk := HOA.out.lt
  refine wl_catB (by rfl) _ _ (by rfl) w.heap.size w _ ([] ++ S) [u] ([] ++ hsS) (by rfl) (owns_below HOA.out hbh) HDA.out (Nat.le_trans HBA.out.size hbh.size) (some ⟨wa.heap.size, 0, none⟩) 1 (by rfl) _ (src_one HU.out (by simp)) (by have := HL.out; simp; omega) ?_
  intro vb wb hob hdb hgb
  have hb : Below w.heap.size w wb := (HBA.out.trans (hbh.mono HBA.out.size)).grown hgb (Nat.le_trans HBA.out.size hbh.size) fun k hk => (hblk k hk).1
  obtain ⟨a9, c9, rfl, hk9⟩ := own_stk hob (hdb.below hb).2
  rw [List.nil_append] at hk9 ⊢
  have HT := Lib.hid hk9
  have HB := Lib.hid hb
  clear hbh hob hdb hgb hk9 hb hblk HOA HDA HBA
  go_wp2
  go_ret
  exact ⟨a9, c9, by first | rfl | simp, HT.out, HB.out⟩
end Go.Proofs.YtjliagcalbdnhaaGreatDoor
