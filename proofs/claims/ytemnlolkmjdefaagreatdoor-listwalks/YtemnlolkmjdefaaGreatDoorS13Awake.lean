/-
  What the statements of layer 13 share: the document's example. Conditions: package list answers as Names13 says; errorType holds error's type.
-/
import Derived.Test.YtemnlolkmjdefaaGreatDoorPf
import Derived.Test.YtemnlolkmjdefaaGreatDoorPc
namespace Go.Proofs.YtemnlolkmjdefaaGreatDoor
open Go.RowKit

theorem stk_lit1 (w : World) (a : Option Addr) (cap : Nat) (l : List Ent) (h : Ents w a cap l) : Stk (w.alloc (.cells #[.slice a l.length cap] 38)) (some ⟨w.heap.size, 0, none⟩) 1 [l] := by
  have hb : Below w.heap.size w (w.alloc (.cells #[.slice a l.length cap] 38)) := (Below.refl _ _).alloc (Nat.le_refl _) _
  refine ⟨Nat.le_refl _, .inr ⟨w.heap.size, 0, rfl, by simp, fun j x hx => ?_⟩⟩
  obtain ⟨rfl, rfl⟩ : j = 0 ∧ l = x := by
    cases j with
    | zero => exact ⟨rfl, by simpa using hx⟩
    | succ j => simp at hx
  exact ⟨a, cap, (cell_of8 (heap_alloc_new _ _) (j := 0 + 0) rfl).1, RowN.below h hb⟩
theorem ex13a : naV [] [47] = (0, []) := by decide +kernel
theorem ex13b : naV [[(⟨#[47, 97]⟩, 1, ⟨#[]⟩)]] [47] = (0, [⟨#[97]⟩]) := by decide +kernel
/-- What fold.Stack answers. -/
def Stack13 : Prop := ∀ S a cap w, Stk w a cap S → (∀ l ∈ S, Sm l) → Calls Tryz.prog 18 #[.slice a S.length cap] w fun e w' => ∃ a' cap', e = .returned (.slice a' (wkV S).length cap') ∧ Ents w' a' cap' (wkV S) ∧ Below w.heap.size w w'
theorem sm_ex13 : ∀ l ∈ ([[(⟨#[47, 97]⟩, 1, ⟨#[]⟩)]] : List (List Ent)), Sm l := by
  intro l hl
  obtain rfl : l = _ := by simpa using hl
  refine ⟨by simp, fun e he => ?_⟩
  obtain rfl : e = _ := by simpa using he
  exact ⟨by decide, by decide⟩
set_option maxHeartbeats 4000000 in
set_option maxRecDepth 10000 in
theorem awake13 (L : Names13) (w : World) (hg : EtLaid w) : Calls Tryz.prog 9 #[] w fun e w' => e = .returned (.bool true) ∧ Below w.heap.size w w' := by
  have HS0 := Lib.hid (st_self hg)
  clear hg
  have HA := Lib.hid (L [] none 0 ⟨#[47]⟩ w HS0.out.et ⟨Nat.le_refl _, .inl rfl⟩ (by simp) (by simp) (by decide))
  rw [show (⟨#[47]⟩ : ByteArray).data.toList = [47] from rfl, ex13a] at HA
  go_enter Tryz.func9, Tryz.ntmps9
  go_wp2_with fail
  refine (HA.out).mono ?_
  rintro e w1 ⟨a1, c1, er1, rfl, _, h1, hb⟩
  have HS1 := Lib.hid (HS0.out.next hb)
  have HER1 := Lib.hid h1
  clear hb h1
  have hb : Below w1.heap.size w1 (w1.alloc (.cells #[.string ⟨#[47, 97]⟩, .int .i64 1, .string ⟨#[]⟩] 41)) := (Below.refl _ _).alloc (Nat.le_refl _) _
  have hq := ents_block (cap := 1) (heap_alloc_new w1 (.cells #[.string ⟨#[47, 97]⟩, .int .i64 1, .string ⟨#[]⟩] 41)) (show _ = [((⟨#[47, 97]⟩, 1, ⟨#[]⟩) : Ent)].flatMap enc from rfl) (by simp)
  have hz : (w1.alloc (.cells #[.string ⟨#[47, 97]⟩, .int .i64 1, .string ⟨#[]⟩] 41)).heap.size = w1.heap.size + 1 := by simp
  obtain ⟨w2, hw2⟩ : ∃ v, w1.alloc (.cells #[.string ⟨#[47, 97]⟩, .int .i64 1, .string ⟨#[]⟩] 41) = v := ⟨_, rfl⟩
  rw [hw2] at hb hq hz
  have hk := stk_lit1 w2 _ _ _ hq
  have hb2 : Below w2.heap.size w2 (w2.alloc (.cells #[.slice (some ⟨w1.heap.size, 0, none⟩) 1 1] 38)) := (Below.refl _ _).alloc (Nat.le_refl _) _
  obtain ⟨w3, hw3⟩ : ∃ v, w2.alloc (.cells #[.slice (some ⟨w1.heap.size, 0, none⟩) 1 1] 38) = v := ⟨_, rfl⟩
  rw [show [((⟨#[47, 97]⟩, 1, ⟨#[]⟩) : Ent)].length = 1 from rfl, hw3] at hk
  rw [hw3] at hb2
  have HS2 := Lib.hid (HS1.out.next hb)
  have HS3 := Lib.hid (HS2.out.next hb2)
  replace HER1 := Lib.hid ((HER1.out.below hb).below hb2)
  have HB := Lib.hid (L _ _ _ ⟨#[47]⟩ _ HS3.out.et hk (by simp) sm_ex13 (by decide))
  rw [show (⟨#[47]⟩ : ByteArray).data.toList = [47] from rfl, ex13b] at HB
  clear hb hb2 hq hk hz
  go_wp2_with fail
  refine (HB.out).mono ?_
  rintro e w4 ⟨a4, c4, er4, rfl, _, h4, hb⟩
  have HS4 := Lib.hid (HS3.out.next hb)
  have HER4 := Lib.hid h4
  replace HER1 := Lib.hid (HER1.out.below hb)
  clear hb h4 hw2 hw3
  go_wp2_with fail
  refine (code_er _ _ _ HER1.out HS4.out.et).mono ?_
  rintro e w5 ⟨rfl, hb⟩
  have HS5 := Lib.hid (HS4.out.next hb)
  replace HER4 := Lib.hid (HER4.out.below hb)
  clear hb
  go_wp2_with fail
  refine (code_er _ _ _ HER4.out HS5.out.et).mono ?_
  rintro e w6 ⟨rfl, hb⟩
  have HS6 := Lib.hid (HS5.out.next hb)
  clear hb
  go_wp2
  go_ret
  exact ⟨by first | rfl | simp, HS6.out.below⟩
end Go.Proofs.YtemnlolkmjdefaaGreatDoor
