/-
  What the statements of layer 12 share: the document's example. Conditions: package look answers as Look12 says; errorType holds error's type.
-/
import Derived.Test.YthpobihpdomhoaaDoorPd
import Derived.Deep.RegionHeld3
namespace Go.Proofs.YthpobihpdomhoaaDoor
open Go.RowKit

theorem ex12 : lkV [[(⟨#[47, 97]⟩, 1, ⟨#[]⟩)], [(⟨#[47, 97]⟩, 2, ⟨#[]⟩)]] [47, 97] = (0, dE ⟨#[47, 97]⟩, 1) := by decide +kernel
theorem ex_stk12 (w : World) : ∃ V, (((w.alloc (.cells #[.string ⟨#[47, 97]⟩, .int .i64 1, .string ⟨#[]⟩] 26)).alloc (.cells #[.string ⟨#[47, 97]⟩, .int .i64 2, .string ⟨#[]⟩] 26)).alloc (.cells #[.slice (some ⟨w.heap.size, 0, none⟩) 1 1, .slice (some ⟨w.heap.size + 1, 0, none⟩) 1 1] 42)) = V ∧ Below w.heap.size w V ∧ Stk V (some ⟨w.heap.size + 1 + 1, 0, none⟩) 2 [[(⟨#[47, 97]⟩, 1, ⟨#[]⟩)], [(⟨#[47, 97]⟩, 2, ⟨#[]⟩)]] := by
  obtain ⟨w1, h1⟩ : ∃ w1, w.alloc (.cells #[.string ⟨#[47, 97]⟩, .int .i64 1, .string ⟨#[]⟩] 26) = w1 := ⟨_, rfl⟩
  rw [h1]
  have s1 : w1.heap.size = w.heap.size + 1 := by rw [← h1]; simp
  have q1 : w1.heap[w.heap.size]? = some (.cells #[.string ⟨#[47, 97]⟩, .int .i64 1, .string ⟨#[]⟩] 26) := by rw [← h1]; exact heap_alloc_new _ _
  have d1 : Below w.heap.size w w1 := by rw [← h1]; exact (Below.refl _ _).alloc (by omega) _
  obtain ⟨w2, h2⟩ : ∃ w2, w1.alloc (.cells #[.string ⟨#[47, 97]⟩, .int .i64 2, .string ⟨#[]⟩] 26) = w2 := ⟨_, rfl⟩
  rw [h2]
  have s2 : w2.heap.size = w.heap.size + 2 := by rw [← h2]; simp; omega
  have e1 : w2.heap[w.heap.size]? = some (.cells #[.string ⟨#[47, 97]⟩, .int .i64 1, .string ⟨#[]⟩] 26) := by rw [← h2, Below.heap_alloc _ _ _ (by omega)]; exact q1
  have e2 : w2.heap[w.heap.size + 1]? = some (.cells #[.string ⟨#[47, 97]⟩, .int .i64 2, .string ⟨#[]⟩] 26) := by
    rw [← h2, show w.heap.size + 1 = w1.heap.size by omega]
    exact heap_alloc_new _ _
  have d2 : Below w.heap.size w w2 := by rw [← h2]; exact d1.alloc (by omega) _
  obtain ⟨w3, h3⟩ : ∃ w3, w2.alloc (.cells #[.slice (some ⟨w.heap.size, 0, none⟩) 1 1, .slice (some ⟨w.heap.size + 1, 0, none⟩) 1 1] 42) = w3 := ⟨_, rfl⟩
  rw [h3]
  have s3 : w3.heap.size = w.heap.size + 3 := by rw [← h3]; simp; omega
  have f1 : w3.heap[w.heap.size]? = some (.cells #[.string ⟨#[47, 97]⟩, .int .i64 1, .string ⟨#[]⟩] 26) := by rw [← h3, Below.heap_alloc _ _ _ (by omega)]; exact e1
  have f2 : w3.heap[w.heap.size + 1]? = some (.cells #[.string ⟨#[47, 97]⟩, .int .i64 2, .string ⟨#[]⟩] 26) := by rw [← h3, Below.heap_alloc _ _ _ (by omega)]; exact e2
  have f3 : w3.heap[w.heap.size + 1 + 1]? = some (.cells #[.slice (some ⟨w.heap.size, 0, none⟩) 1 1, .slice (some ⟨w.heap.size + 1, 0, none⟩) 1 1] 42) := by
    rw [← h3, show w.heap.size + 1 + 1 = w2.heap.size by omega]
    exact heap_alloc_new _ _
  have d3 : Below w.heap.size w w3 := by rw [← h3]; exact d2.alloc (by omega) _
  refine ⟨w3, rfl, d3, by simp, .inr ⟨_, 0, rfl, by omega, fun j l hl => ?_⟩⟩
  match j, hl with
  | 0, hl =>
    obtain rfl : [((⟨#[47, 97]⟩, 1, ⟨#[]⟩) : Ent)] = l := by simpa using hl
    exact ⟨_, 1, (cell_of8 f3 rfl).1, ents_block f1 rfl (by simp)⟩
  | 1, hl =>
    obtain rfl : [((⟨#[47, 97]⟩, 2, ⟨#[]⟩) : Ent)] = l := by simpa using hl
    exact ⟨_, 1, (cell_of8 f3 rfl).1, ents_block f2 rfl (by simp)⟩
theorem sm_ex12 : ∀ l ∈ ([[(⟨#[47, 97]⟩, 1, ⟨#[]⟩)], [(⟨#[47, 97]⟩, 2, ⟨#[]⟩)]] : List (List Ent)), Sm l := by
  intro l hl
  refine ⟨?_, fun e he => ?_⟩
  · rcases List.mem_cons.1 hl with rfl | hl
    · simp
    · obtain rfl : l = _ := by simpa using hl
      simp
  · rcases List.mem_cons.1 hl with rfl | hl
    · obtain rfl : e = _ := by simpa using he
      exact ⟨by decide, by decide⟩
    · obtain rfl : l = _ := by simpa using hl
      obtain rfl : e = _ := by simpa using he
      exact ⟨by decide, by decide⟩
set_option maxRecDepth 10000 in
theorem awake12 (L : Look12) (w : World) (hg : EtLaid w) : Calls Tryd.prog 8 #[] w fun e w' => e = .returned (.bool true) ∧ Below w.heap.size w w' := by
  have HS0 := Lib.hid (st_self hg)
  clear hg
  obtain ⟨V, hV, hb, hk⟩ := ex_stk12 w
  have HS1 := Lib.hid (HS0.out.next hb)
  have HC := Lib.hid (L _ _ _ ⟨#[47, 97]⟩ _ HS1.out.et hk (by simp) sm_ex12 (by decide))
  rw [show (⟨#[47, 97]⟩ : ByteArray).data.toList = [47, 97] from rfl, ex12] at HC
  obtain ⟨y, hy⟩ : ∃ y : Ent × Nat, (dE ⟨#[47, 97]⟩, 1) = y := ⟨_, rfl⟩
  have g1 : ((y.2 : Int) == 1) = true := by rw [← hy]; rfl
  have g2 : (y.1.2.1 == 2) = true := by rw [← hy]; rfl
  simp only [hy] at HC
  clear hb hk hy
  go_enter Tryd.func8, Tryd.ntmps8
  go_wp2_with fail
  refine (HC.out).mono ?_
  rintro e w2 ⟨er, rfl, her, hb⟩
  have HS2 := Lib.hid (HS1.out.next hb)
  have HER := Lib.hid her
  clear hb her hV
  obtain ⟨V2, U2, M2, hV2, hM2, hU2, hv2, hu2, hb⟩ := fd_box w2 y
  have v0 := hv2.c0
  have v1 := hv2.c1
  have v2 := hv2.c2
  have v3 := hv2.c3
  have vf0 := hv2.f0
  have vf1 := hv2.f1
  have vf2 := hv2.f2
  have vf3 := hv2.f3
  have HF2 := Lib.hid hu2
  have HS3 := Lib.hid (HS2.out.next hb)
  replace HER := Lib.hid (HER.out.below hb)
  clear hv2 hu2 hb
  go_wp2_with fail
  refine (code_er _ _ _ HER.out HS3.out.et).mono ?_
  rintro e w4 ⟨rfl, hb⟩
  have HS4 := Lib.hid (HS3.out.next hb)
  have HF4 := Lib.hid (HF2.out.below hb)
  clear hb v0 v1 v2 v3 vf0 vf1 vf2 vf3 hV2 hM2 hU2
  have u0 := HF4.out.c0
  have u1 := HF4.out.c1
  have u2 := HF4.out.c2
  have u3 := HF4.out.c3
  go_wp2_with fail
  go_ret
  exact ⟨by first | rfl | simp, HS4.out.below⟩
end Go.Proofs.YthpobihpdomhoaaDoor
