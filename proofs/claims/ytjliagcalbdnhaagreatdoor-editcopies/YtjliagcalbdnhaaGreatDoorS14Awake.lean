/-
  What the statements of layer 14 share: the document's example. Conditions: package edit answers as Do14 says; errorType holds error's type.
-/
import Derived.Test.YtjliagcalbdnhaaGreatDoorS14Spec
import Derived.Test.YtjliagcalbdnhaaGreatDoorS14Of
import Derived.Test.YtjliagcalbdnhaaGreatDoorPc
import Derived.IntWalk
import Derived.Lib.Hide
namespace Go.Proofs.YtjliagcalbdnhaaGreatDoor
open Go.RowKit

theorem stk_lit14 (w : World) (a : Option Addr) (cap : Nat) (l : List Ent) (h : Ents w a cap l) : Stk (w.alloc (.cells #[.slice a l.length cap] 27)) (some ⟨w.heap.size, 0, none⟩) 1 [l] := by
  have hb : Below w.heap.size w (w.alloc (.cells #[.slice a l.length cap] 27)) := (Below.refl _ _).alloc (Nat.le_refl _) _
  refine ⟨Nat.le_refl _, .inr ⟨w.heap.size, 0, rfl, by simp, fun j x hx => ?_⟩⟩
  obtain ⟨rfl, rfl⟩ : j = 0 ∧ l = x := by
    cases j with
    | zero => exact ⟨rfl, by simpa using hx⟩
    | succ j => simp at hx
  exact ⟨a, cap, (cell_of8 (heap_alloc_new _ _) (j := 0 + 0) rfl).1, RowN.below h hb⟩
theorem ex14 : edV [[(⟨#[47, 97]⟩, 1, ⟨#[]⟩)]] [] (4, ⟨#[47, 97]⟩, ⟨#[]⟩, 0, ⟨#[]⟩) = (0, [(⟨#[47, 97]⟩, 3, ⟨#[]⟩)]) := by decide +kernel
theorem sm_ex14 : ∀ l ∈ ([[(⟨#[47, 97]⟩, 1, ⟨#[]⟩)]] : List (List Ent)), Sm l := by
  intro l hl
  obtain rfl : l = _ := by simpa using hl
  refine ⟨by simp, fun e he => ?_⟩
  obtain rfl : e = _ := by simpa using he
  exact ⟨by decide, by decide⟩
attribute [local go_sem] isEv_agg evEq_agg eta_ent eqw_en
set_option maxHeartbeats 4000000 in
set_option maxRecDepth 10000 in
theorem awake14 (L : Do14) (w : World) (hg : EtLaid w) : Calls Tryz.prog 7 #[] w fun e w' => e = .returned (.bool true) ∧ Below w.heap.size w w' := by
  have HS0 := Lib.hid (st_self hg)
  clear hg
  go_enter Tryz.func7, Tryz.ntmps7
  have hb : Below w.heap.size w (w.alloc (.cells #[.string ⟨#[47, 97]⟩, .int .i64 1, .string ⟨#[]⟩] 46)) := (Below.refl _ _).alloc (Nat.le_refl _) _
  have hq := ents_block (cap := 1) (heap_alloc_new w (.cells #[.string ⟨#[47, 97]⟩, .int .i64 1, .string ⟨#[]⟩] 46)) (show _ = [((⟨#[47, 97]⟩, 1, ⟨#[]⟩) : Ent)].flatMap enc from rfl) (by simp)
  have hz : (w.alloc (.cells #[.string ⟨#[47, 97]⟩, .int .i64 1, .string ⟨#[]⟩] 46)).heap.size = w.heap.size + 1 := by simp
  obtain ⟨w2, hw2⟩ : ∃ v, w.alloc (.cells #[.string ⟨#[47, 97]⟩, .int .i64 1, .string ⟨#[]⟩] 46) = v := ⟨_, rfl⟩
  rw [hw2] at hb hq hz
  have hk := stk_lit14 w2 _ _ _ hq
  have hb2 : Below w2.heap.size w2 (w2.alloc (.cells #[.slice (some ⟨w.heap.size, 0, none⟩) 1 1] 27)) := (Below.refl _ _).alloc (Nat.le_refl _) _
  obtain ⟨w3, hw3⟩ : ∃ v, w2.alloc (.cells #[.slice (some ⟨w.heap.size, 0, none⟩) 1 1] 27) = v := ⟨_, rfl⟩
  rw [show [((⟨#[47, 97]⟩, 1, ⟨#[]⟩) : Ent)].length = 1 from rfl, hw3] at hk
  rw [hw3] at hb2
  have HS2 := Lib.hid (HS0.out.next hb)
  have HS3 := Lib.hid (HS2.out.next hb2)
  have HB := Lib.hid (L _ _ _ [] none 0 (4, ⟨#[47, 97]⟩, ⟨#[]⟩, 0, ⟨#[]⟩) _ HS3.out.et hk (ents_nil _ _ _) (by simp) sm_ex14 ⟨by simp, by simp⟩ ⟨by decide, by decide, by decide⟩ ⟨by decide, by decide, by decide, by decide, by decide⟩)
  rw [ex14] at HB
  clear hb hb2 hq hk hz
  go_wp2_with fail
  refine (HB.out).mono ?_
  rintro e w4 ⟨a4, c4, er4, rfl, h4, e4, hb⟩
  have HS4 := Lib.hid (HS3.out.next hb)
  have HE4 := Lib.hid h4
  have HER4 := Lib.hid e4
  clear hb h4 e4 hw2 hw3
  go_wp2_with fail
  refine (code_er _ _ _ HER4.out HS4.out.et).mono ?_
  rintro e w5 ⟨rfl, hb⟩
  have HS5 := Lib.hid (HS4.out.next hb)
  replace HE4 := Lib.hid (RowN.below HE4.out hb)
  clear hb
  obtain ⟨b, off, rfl, _, hc⟩ := Ents.at HE4.out (Below.refl _ _) (k := 0) (by simp)
  have c0 : w5.cell? ⟨b, off, none⟩ = some (.string ⟨#[47, 97]⟩) := by have := hc.c0; simpa using this
  have c1 : w5.cell? ⟨b, off + 1, none⟩ = some (.int .i64 3) := by have := hc.c1; simpa using this
  have c2 : w5.cell? ⟨b, off + 2, none⟩ = some (.string ⟨#[]⟩) := by have := hc.c2; simpa using this
  clear hc
  go_wp2
  go_ret
  exact ⟨by first | rfl | simp, HS5.out.below⟩
end Go.Proofs.YtjliagcalbdnhaaGreatDoor
