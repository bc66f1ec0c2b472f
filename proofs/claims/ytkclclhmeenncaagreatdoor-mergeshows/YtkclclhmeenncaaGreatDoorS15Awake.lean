/-
  What the statements of layer 15 share: the document's example. Conditions: package merge answers as Two15 says; errorType holds error's type.
-/
import Derived.Test.YtkclclhmeenncaaGreatDoorPd
import Derived.Test.YtkclclhmeenncaaGreatDoorPc
namespace Go.Proofs.YtkclclhmeenncaaGreatDoor
open Go.RowKit

theorem ex15a : twV [(⟨#[47, 97]⟩, 1, ⟨#[]⟩)] [(⟨#[47, 97]⟩, 3, ⟨#[]⟩)] false = (0, [(⟨#[47, 97]⟩, 3, ⟨#[]⟩)]) := by decide +kernel
theorem ex15b : twV [(⟨#[47, 97]⟩, 1, ⟨#[]⟩)] [(⟨#[47, 97]⟩, 3, ⟨#[]⟩)] true = (0, []) := by decide +kernel
theorem sm_one15 (k : Int) : Sm [((⟨#[47, 97]⟩, k, ⟨#[]⟩) : Ent)] := ⟨by simp, fun e he => by
  obtain rfl : e = _ := by simpa using he
  exact ⟨show (2 : Nat) ≤ 100000 by decide, show (0 : Nat) ≤ 100000 by decide⟩⟩
set_option maxHeartbeats 4000000 in
set_option maxRecDepth 10000 in
theorem awake15 (L : Two15) (w : World) (hg : EtLaid w) : Calls Tryz.prog 6 #[] w fun e w' => e = .returned (.bool true) ∧ Below w.heap.size w w' := by
  have HS0 := Lib.hid (st_self hg)
  clear hg
  obtain ⟨M1, hM1⟩ : ∃ M, w.heap.size = M := ⟨_, rfl⟩
  obtain ⟨V1, hV1⟩ : ∃ V, w.alloc (.cells #[.string ⟨#[47, 97]⟩, .int .i64 1, .string ⟨#[]⟩] 33) = V := ⟨_, rfl⟩
  obtain ⟨M2, hM2⟩ : ∃ M, V1.heap.size = M := ⟨_, rfl⟩
  obtain ⟨V2, hV2⟩ : ∃ V, V1.alloc (.cells #[.string ⟨#[47, 97]⟩, .int .i64 3, .string ⟨#[]⟩] 33) = V := ⟨_, rfl⟩
  have hb1 : Below w.heap.size w V1 := by rw [← hV1]; exact (Below.refl _ _).alloc (Nat.le_refl _) _
  have hb2 : Below V1.heap.size V1 V2 := by rw [← hV2]; exact (Below.refl _ _).alloc (Nat.le_refl _) _
  have hq1 := ents_block (cap := 1) (heap_alloc_new w (.cells #[.string ⟨#[47, 97]⟩, .int .i64 1, .string ⟨#[]⟩] 33)) (show _ = [((⟨#[47, 97]⟩, 1, ⟨#[]⟩) : Ent)].flatMap enc from rfl) (by simp)
  have hq2 := ents_block (cap := 1) (heap_alloc_new V1 (.cells #[.string ⟨#[47, 97]⟩, .int .i64 3, .string ⟨#[]⟩] 33)) (show _ = [((⟨#[47, 97]⟩, 3, ⟨#[]⟩) : Ent)].flatMap enc from rfl) (by simp)
  rw [hV1, hM1] at hq1
  rw [hV2, hM2] at hq2
  have HS2 := Lib.hid ((HS0.out.next hb1).next hb2)
  have HA := Lib.hid (RowN.below hq1 hb2)
  have HB := Lib.hid hq2
  have H1 := Lib.hid (fun W hW h1 h2 => L [((⟨#[47, 97]⟩, 1, ⟨#[]⟩) : Ent)] (some ⟨M1, 0, none⟩) 1 [((⟨#[47, 97]⟩, 3, ⟨#[]⟩) : Ent)] (some ⟨M2, 0, none⟩) 1 false W hW h1 h2 (sm_one15 1) (sm_one15 3))
  have H2 := Lib.hid (fun W hW h1 h2 => L [((⟨#[47, 97]⟩, 1, ⟨#[]⟩) : Ent)] (some ⟨M1, 0, none⟩) 1 [((⟨#[47, 97]⟩, 3, ⟨#[]⟩) : Ent)] (some ⟨M2, 0, none⟩) 1 true W hW h1 h2 (sm_one15 1) (sm_one15 3))
  simp only [ex15a] at H1
  simp only [ex15b] at H2
  clear hb1 hb2 hq1 hq2
  go_enter Tryz.func6, Tryz.ntmps6
  go_wp2_with fail
  refine (H1.out _ HS2.out.et HA.out HB.out).mono ?_
  rintro e w1 ⟨a1, c1, er1, rfl, h9, h1, hb⟩
  have HX := Lib.hid h9
  have HER1 := Lib.hid h1
  have HS3 := Lib.hid (HS2.out.next hb)
  replace HA := Lib.hid (RowN.below HA.out hb)
  replace HB := Lib.hid (RowN.below HB.out hb)
  clear hb h1 h9 hV1 hV2 hM1 hM2
  go_wp2_with fail
  refine (H2.out _ HS3.out.et HA.out HB.out).mono ?_
  rintro e w2 ⟨a2, c2, er2, rfl, _, h1, hb⟩
  have HER2 := Lib.hid h1
  have HS4 := Lib.hid (HS3.out.next hb)
  replace HX := Lib.hid (RowN.below HX.out hb)
  replace HER1 := Lib.hid (HER1.out.below hb)
  clear hb h1
  go_wp2_with fail
  refine (code_er _ _ _ HER1.out HS4.out.et).mono ?_
  rintro e w3 ⟨rfl, hb⟩
  have HS5 := Lib.hid (HS4.out.next hb)
  replace HER2 := Lib.hid (HER2.out.below hb)
  replace HX := Lib.hid (RowN.below HX.out hb)
  clear hb
  go_wp2_with fail
  refine (code_er _ _ _ HER2.out HS5.out.et).mono ?_
  rintro e w4 ⟨rfl, hb⟩
  have HS6 := Lib.hid (HS5.out.next hb)
  replace HX := Lib.hid (RowN.below HX.out hb)
  clear hb
  obtain ⟨b9, o9, rfl, _, hc⟩ := Ents.at HX.out (Below.refl _ _) (k := 0) (by simp)
  have q1 := hc.c1
  have q0 := hc.c0
  have q2 := hc.c2
  go_wp2
  go_ret
  exact ⟨by first | rfl | simp, HS6.out.below⟩
end Go.Proofs.YtkclclhmeenncaaGreatDoor
