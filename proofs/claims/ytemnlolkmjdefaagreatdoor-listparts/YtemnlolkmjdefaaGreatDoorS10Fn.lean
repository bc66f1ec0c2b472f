/-
  Contracts of package fold's shown. Conditions: as each says.
-/
import Derived.Test.YtemnlolkmjdefaaGreatDoorS10Sort
import Derived.Test.YtemnlolkmjdefaaGreatDoorPc
import Derived.Test.YtemnlolkmjdefaaGreatDoorPh
namespace Go.Proofs.YtemnlolkmjdefaaGreatDoor
open Go.RowKit

theorem results_cellE {fn : Func} {p : Tmp} {ty : TypeId} (h : fn.results = #[.cell p ty]) (tmps : Array Value) (P : Program) (w : World) :
    (results fn tmps).run P w = ((asAddr (tmps.getD p undef)).run P w).andThen fun a w₁ => (loadVar ty a).run P w₁ := by
  simp only [results, h]
  simp [Sem.run_bind, Result.andThen]
theorem sh_dir {e : Ent} (h : rE e = true) (h1 : e.2.1 ≠ 1) : sh e = (e.1, 2, e.2.2) := by
  unfold sh
  rw [if_neg h1]
  obtain ⟨_, _, _, _, h5⟩ := rightE_parts h
  rcases h5 with h5 | h5
  · exact absurd h5 h1
  · unfold dE
    rw [show e.2.2 = ⟨#[]⟩ from ba_ext (List.length_eq_zero_iff.1 (by rw [← Lib.size_eq]; exact h5))]
set_option maxHeartbeats 1000000 in
theorem shown10 (e : Ent) (h : rE e = true) (h3 : e.2.1 ≠ 3) (w : World) : Calls Tryz.prog 67 #[enV e] w fun r w' => r = .returned (enV (sh e)) ∧ Below w.heap.size w w' := by
  obtain ⟨W, hW⟩ : ∃ W, w.alloc (.cells #[.string e.1, .int .i64 e.2.1, .string e.2.2] 41) = W := ⟨_, rfl⟩
  obtain ⟨M, hM⟩ : ∃ M, w.heap.size = M := ⟨_, rfl⟩
  obtain ⟨V, hV⟩ : ∃ V, W.alloc (.cells #[.string ⟨#[]⟩, .int .i64 0, .string ⟨#[]⟩] 41) = V := ⟨_, rfl⟩
  obtain ⟨O, hO⟩ : ∃ O, W.heap.size = O := ⟨_, rfl⟩
  have hb0 : Below w.heap.size w W := by rw [← hW]; exact (Below.refl _ _).alloc (Nat.le_refl _) _
  have hb1 : Below W.heap.size W V := by rw [← hV]; exact (Below.refl _ _).alloc (Nat.le_refl _) _
  have q0 : EnAt W M e.1 e.2.1 e.2.2 := by rw [← hW, ← hM]; exact enAt_new _ _ _ _
  have q1 : EnAt V M e.1 e.2.1 e.2.2 := q0.below hb1
  have r1 : EnAt V O ⟨#[]⟩ 0 ⟨#[]⟩ := by rw [← hV, ← hO]; exact enAt_new _ _ _ _
  have HNE := Lib.hid (show M ≠ O ∧ w.heap.size ≤ M ∧ w.heap.size ≤ O by
    have := q0.lt
    have := hb0.size
    omega)
  have HB := Lib.hid (hb0.trans (hb1.mono hb0.size))
  have HQ := Lib.hid q1
  have HR := Lib.hid r1
  clear hb0 hb1 q0
  have called : (e.2.1 = 1 ∧ (e.2.1 == 2 || e.2.1 == 4) = false) ∨ (e.2.1 ≠ 1 ∧ (e.2.1 == 2 || e.2.1 == 4) = true) := by
    have hk := kind_of h
    by_cases h1 : e.2.1 = 1
    · exact .inl ⟨h1, by rw [h1]; rfl⟩
    · refine .inr ⟨h1, ?_⟩
      have : e.2.1 = 2 ∨ e.2.1 = 4 := by omega
      rcases this with h | h <;> rw [h] <;> rfl
  have c0 := q1.c0
  have c1 := q1.c1
  have c2 := q1.c2
  clear q1 r1
  rcases called with ⟨h1, hv⟩ | ⟨h1, hv⟩
  · have HV := Lib.hid (show sh e = e by unfold sh; rw [if_pos h1])
    have HH := Lib.hid hv
    clear h h3 h1 hv
    go_enter Tryz.func67, Tryz.ntmps67
    go_wp2_with fail
    refine (holds8 e.1 e.2.2 e.2.1 V).mono ?_
    rintro r w1 ⟨rfl, hb⟩
    rw [HH.out]
    have HB1 := Lib.hid (HB.out.trans (hb.mono HB.out.size))
    have HQ1 := Lib.hid (HQ.out.below hb)
    have HR1 := Lib.hid (HR.out.below hb)
    clear hb c0 c1 c2
    have c0 := HQ1.out.c0
    have c1 := HQ1.out.c1
    have c2 := HQ1.out.c2
    have r0 := HR1.out.c0
    have r1 := HR1.out.c1
    have r2 := HR1.out.c2
    have f0 := HR1.out.f0
    have f1 := HR1.out.f1
    have f2 := HR1.out.f2
    go_wp2
    have hld := lv_en (HR1.out.set e.1 e.2.1 e.2.2)
    refine bodyPost_ret (v := enV e) ?_ rfl ⟨by rw [HV.out], below_en3 HB1.out HNE.out.2.2 _ _ _⟩
    rw [results_cellE rfl]
    simp [asAddr, Result.andThen, hld]
  · have HV := Lib.hid (sh_dir h h1)
    have HH := Lib.hid hv
    clear h h3 h1 hv
    go_enter Tryz.func67, Tryz.ntmps67
    go_wp2_with fail
    refine (holds8 e.1 e.2.2 e.2.1 V).mono ?_
    rintro r w1 ⟨rfl, hb⟩
    rw [HH.out]
    have HB1 := Lib.hid (HB.out.trans (hb.mono HB.out.size))
    have HQ1 := Lib.hid (HQ.out.below hb)
    have HR1 := Lib.hid (HR.out.below hb)
    clear hb c0 c1 c2
    have c0 := HQ1.out.c0
    have c1 := HQ1.out.c1
    have c2 := HQ1.out.c2
    have g1 := HQ1.out.f1
    have r0 := HR1.out.c0
    have r1 := HR1.out.c1
    have r2 := HR1.out.c2
    have f0 := HR1.out.f0
    have f1 := HR1.out.f1
    have f2 := HR1.out.f2
    have hne : ¬ M = O := HNE.out.1
    have hne2 : ¬ O = M := fun h => HNE.out.1 h.symm
    go_wp2
    have h5 : EnAt (w1.setCell ⟨M, 1, none⟩ (.int .i64 2)) O ⟨#[]⟩ 0 ⟨#[]⟩ := HR1.out.of (Below.heap_setCell _ _ _ _ hne2)
    have hld := lv_en (h5.set e.1 2 e.2.2)
    refine bodyPost_ret (v := entV e.1 2 e.2.2) ?_ rfl ⟨by rw [HV.out], below_en3 (HB1.out.setCell (p := ⟨M, 1, none⟩) HNE.out.2.1 _) HNE.out.2.2 _ _ _⟩
    rw [results_cellE rfl]
    simp [asAddr, Result.andThen, hld]
end Go.Proofs.YtemnlolkmjdefaaGreatDoor
