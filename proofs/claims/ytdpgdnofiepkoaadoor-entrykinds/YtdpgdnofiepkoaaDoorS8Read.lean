/-
  Contracts of package entry's Read: the next entry, if there is one that is right; else ErrForm; of nil. Condition: the bytes fit in memory.
-/
import Derived.Test.YtdpgdnofiepkoaaDoorS8Parts
namespace Go.Proofs.YtdpgdnofiepkoaaDoor
open Go.RowKit

/-- An entry that is right begins the bytes. -/
def Ent8 (l : List UInt8) (p : ByteArray) (k : Nat) (d : ByteArray) (rest : List UInt8) : Prop := l = (layE p k d).data.toList ++ rest ∧ rightE p (k : Int) d = true
theorem ent8_pts {l : List UInt8} {p d : ByteArray} {k : Nat} {rest : List UInt8} (h : Ent8 l p k d rest) : Pts8 l p k d rest := by
  obtain ⟨_, _, h3, _⟩ := rightE_parts h.2
  exact ⟨h.1, by omega⟩
theorem ent8_list {l : List UInt8} {p d : ByteArray} {k : Nat} {rest : List UInt8} (h : Ent8 l p k d rest) : l = dg k ++ (dg p.size ++ (p.data.toList ++ (dg d.size ++ (d.data.toList ++ rest)))) ∧ k ≤ 4 ∧ p.size ≤ 54 ∧ d.size ≤ 256 := by
  obtain ⟨h1, h2⟩ := h
  obtain ⟨a1, a2, a3, a4, _⟩ := rightE_parts h2
  have h54 := isP_len (isP_of_dp a1)
  rw [← Lib.size_eq] at h54
  refine ⟨?_, by omega, h54, a4⟩
  rw [h1, layE_list]
  simp only [List.append_assoc]
set_option maxRecDepth 10000 in
theorem read8_nil (w : World) : Calls Tryd.prog 15 #[.pointer none] w fun e w' => e = .returned (.tuple #[entV ⟨#[]⟩ 0 ⟨#[]⟩, .iface 43 (.int .i64 1)]) ∧ Below w.heap.size w w' := by
  have hb0 : Below w.heap.size w (w.alloc (.cells #[.string ⟨#[]⟩, .int .i64 0, .string ⟨#[]⟩] 23)) := (Below.refl _ _).alloc (Nat.le_refl _) _
  have HB0 := Lib.hid hb0
  have HR0 := Lib.hid (enAt_new w ⟨#[]⟩ 0 ⟨#[]⟩)
  clear hb0
  go_enter Tryd.func15, Tryd.ntmps15
  go_wp2_with fail
  refine (parts8_nil _).mono ?_
  rintro e w1 ⟨rfl, hb1⟩
  have hb2 : Below w1.heap.size w1 (w1.alloc (.cells #[.string ⟨#[]⟩, .int .i64 0, .string ⟨#[]⟩] 23)) := (Below.refl _ _).alloc (Nat.le_refl _) _
  have HB1 := Lib.hid ((HB0.out.trans (hb1.mono HB0.out.size)).trans (hb2.mono (HB0.out.trans (hb1.mono HB0.out.size)).size))
  have r1 := (HR0.out.below hb1).below hb2
  have c0 := r1.c0
  have c1 := r1.c1
  have c2 := r1.c2
  have f0 := r1.f0
  have f1 := r1.f1
  have f2 := r1.f2
  have HR1 := Lib.hid r1
  clear hb1 r1 hb2
  go_wp2
  have hld := lv_en (HR1.out.set ⟨#[]⟩ 0 ⟨#[]⟩)
  refine bodyPost_ret (v := .tuple #[entV ⟨#[]⟩ 0 ⟨#[]⟩, .iface 43 (.int .i64 1)]) ?_ rfl ⟨rfl, below_en3 HB1.out (Nat.le_refl _) _ _ _⟩
  rw [results_cell8 rfl]
  simp [asAddr, Result.andThen, hld]
set_option maxRecDepth 10000 in
set_option maxHeartbeats 2000000 in
theorem read8K (s : ByteArray) (hz : s.size ≤ 100000) (p : Nat) (w : World) (hp : Rd w p s) :
    Calls Tryd.prog 15 #[.pointer (some ⟨p, 0, none⟩)] w fun e w' => ((∃ x k y rest, Ent8 s.data.toList x k y rest ∧ e = .returned (.tuple #[entV x (k : Int) y, .nilIface]) ∧ Rd w' p (bs rest)) ∨ ((∀ x k y rest, ¬ Ent8 s.data.toList x k y rest) ∧ e = .returned (.tuple #[entV ⟨#[]⟩ 0 ⟨#[]⟩, .iface 43 (.int .i64 13)]))) ∧ Below p w w' ∧ Kp p w w' := by
  obtain ⟨W, hW⟩ : ∃ W, w.alloc (.cells #[.string ⟨#[]⟩, .int .i64 0, .string ⟨#[]⟩] 23) = W := ⟨_, rfl⟩
  have hb0 : Below w.heap.size w W := by rw [← hW]; exact (Below.refl _ _).alloc (Nat.le_refl _) _
  have r0 : EnAt W w.heap.size ⟨#[]⟩ 0 ⟨#[]⟩ := by rw [← hW]; exact enAt_new _ _ _ _
  have HB0 := Lib.hid (hb0.mono (Nat.le_of_lt hp.1))
  have HK0 := Lib.hid (kp_below p hb0)
  have HR0 := Lib.hid r0
  have HN := Lib.hid hp.1
  have HC := Lib.hid (parts8 s hz p W (hp.below hb0))
  have HZ := Lib.hid hz
  clear hz hp hb0 r0
  go_enter Tryd.func15, Tryd.ntmps15
  go_wp2_with fail
  refine HC.out.mono ?_
  rintro e w1 ⟨⟨x, k, y, rest, hpt, rfl, hp1⟩ | ⟨hno, rfl⟩, hb1, hk1⟩
  · have hne : ¬ w.heap.size = p := by have := HN.out; omega
    have r1 : EnAt w1 w.heap.size ⟨#[]⟩ 0 ⟨#[]⟩ := HR0.out.of (hk1.2 _ HR0.out.lt hne)
    have hb2 : Below w1.heap.size w1 (w1.alloc (.cells #[.string x, .int .i64 (k : Int), .string y] 23)) := (Below.refl _ _).alloc (Nat.le_refl _) _
    have q2 := enAt_new w1 x (k : Int) y
    obtain ⟨w2, hw2⟩ : ∃ w2, w1.alloc (.cells #[.string x, .int .i64 (k : Int), .string y] 23) = w2 := ⟨_, rfl⟩
    obtain ⟨M, hM⟩ : ∃ M, w1.heap.size = M := ⟨_, rfl⟩
    rw [hw2] at hb2 q2
    rw [hM] at q2
    have HB2 := Lib.hid ((HB0.out.trans hb1).trans (hb2.mono (Nat.le_of_lt hp1.1)))
    have HK2 := Lib.hid ((HK0.out.trans hk1).trans (kp_below p hb2))
    have HR2 := Lib.hid (r1.below hb2)
    have HP2 := Lib.hid (hp1.below hb2)
    have HQ2 := Lib.hid q2
    have hsz := pts8_len hpt
    rw [← Lib.size_eq] at hsz
    have HRI := Lib.hid (fun X => right8 x (k : Int) y (by have := HZ.out; unfold maxLen; omega) X)
    have HPT := Lib.hid hpt
    have g0 := q2.c0
    have g1 := q2.c1
    have g2 := q2.c2
    clear hb1 hk1 hp1 hb2 q2 r1 hne hsz hpt
    go_wp2_with fail
    refine (HRI.out _).mono ?_
    rintro e w3 ⟨rfl, hb3⟩
    have HB3 := Lib.hid (HB2.out.trans (hb3.mono (Nat.le_of_lt HP2.out.1)))
    have HK3 := Lib.hid (HK2.out.trans (kp_below p hb3))
    have HR3 := Lib.hid (HR2.out.below hb3)
    have HP3 := Lib.hid (HP2.out.below hb3)
    have q3 := HQ2.out.below hb3
    have i0 := q3.c0
    have i1 := q3.c1
    have i2 := q3.c2
    clear hb3 q3 g0 g1 g2 hw2 hM
    have c0 := HR3.out.c0
    have c1 := HR3.out.c1
    have c2 := HR3.out.c2
    have f0 := HR3.out.f0
    have f1 := HR3.out.f1
    have f2 := HR3.out.f2
    cases hrv : rightE x (k : Int) y with
    | false =>
      have HNO := Lib.hid (show ∀ x k y rest, ¬ Ent8 s.data.toList x k y rest from fun x' m y' rest h => by
        have h2 := h.1
        rw [HPT.out.1] at h2
        obtain ⟨rfl, rfl, rfl, _⟩ := layE_cut h2
        have h3 := h.2
        rw [hrv] at h3
        cases h3)
      clear hrv
      go_wp2
      have hld := lv_en (HR3.out.set ⟨#[]⟩ 0 ⟨#[]⟩)
      refine bodyPost_ret (v := .tuple #[entV ⟨#[]⟩ 0 ⟨#[]⟩, .iface 43 (.int .i64 13)]) ?_ rfl ⟨.inr ⟨HNO.out, rfl⟩, below_en3 HB3.out (Nat.le_of_lt HN.out) _ _ _, kp_en3 HK3.out (Nat.le_refl _) _ _ _⟩
      rw [results_cell8 rfl]
      simp [asAddr, Result.andThen, hld]
    | true =>
      have HEN := Lib.hid (show Ent8 s.data.toList x k y rest from ⟨HPT.out.1, hrv⟩)
      clear hrv
      go_wp2
      have hld := lv_en (HR3.out.set x (k : Int) y)
      have hne : ¬ p = w.heap.size := by have := HN.out; omega
      refine bodyPost_ret (v := .tuple #[entV x (k : Int) y, .nilIface]) ?_ rfl ⟨.inl ⟨x, k, y, rest, HEN.out, rfl, HP3.out.en3 hne _ _ _⟩, below_en3 HB3.out (Nat.le_of_lt HN.out) _ _ _, kp_en3 HK3.out (Nat.le_refl _) _ _ _⟩
      rw [results_cell8 rfl]
      simp [asAddr, Result.andThen, hld]
  · have HNO := Lib.hid (show ∀ x k y rest, ¬ Ent8 s.data.toList x k y rest from fun x k y rest h => hno x k y rest (ent8_pts h))
    have hne : ¬ w.heap.size = p := by have := HN.out; omega
    have r1 : EnAt w1 w.heap.size ⟨#[]⟩ 0 ⟨#[]⟩ := HR0.out.of (hk1.2 _ HR0.out.lt hne)
    have hb2 : Below w1.heap.size w1 (w1.alloc (.cells #[.string ⟨#[]⟩, .int .i64 0, .string ⟨#[]⟩] 23)) := (Below.refl _ _).alloc (Nat.le_refl _) _
    have HB2 := Lib.hid ((HB0.out.trans hb1).trans (hb2.mono (by have := HR0.out.lt; have := hk1.1; have := HN.out; omega)))
    have HK2 := Lib.hid ((HK0.out.trans hk1).trans (kp_below p hb2))
    have r2 := r1.below hb2
    have c0 := r2.c0
    have c1 := r2.c1
    have c2 := r2.c2
    have f0 := r2.f0
    have f1 := r2.f1
    have f2 := r2.f2
    have HR2 := Lib.hid r2
    clear hb1 hk1 r1 hb2 r2 hne hno hW
    go_wp2
    have hld := lv_en (HR2.out.set ⟨#[]⟩ 0 ⟨#[]⟩)
    refine bodyPost_ret (v := .tuple #[entV ⟨#[]⟩ 0 ⟨#[]⟩, .iface 43 (.int .i64 13)]) ?_ rfl ⟨.inr ⟨HNO.out, rfl⟩, below_en3 HB2.out (Nat.le_of_lt HN.out) _ _ _, kp_en3 HK2.out (Nat.le_refl _) _ _ _⟩
    rw [results_cell8 rfl]
    simp [asAddr, Result.andThen, hld]
theorem read8 (s : ByteArray) (hz : s.size ≤ 100000) (p : Nat) (w : World) (hp : Rd w p s) :
    Calls Tryd.prog 15 #[.pointer (some ⟨p, 0, none⟩)] w fun e w' => ((∃ x k y rest, Ent8 s.data.toList x k y rest ∧ e = .returned (.tuple #[entV x (k : Int) y, .nilIface]) ∧ Rd w' p (bs rest)) ∨ ((∀ x k y rest, ¬ Ent8 s.data.toList x k y rest) ∧ e = .returned (.tuple #[entV ⟨#[]⟩ 0 ⟨#[]⟩, .iface 43 (.int .i64 13)]))) ∧ Below p w w' :=
  (read8K s hz p w hp).mono fun _ _ h => ⟨h.1, h.2.1⟩
end Go.Proofs.YtdpgdnofiepkoaaDoor
