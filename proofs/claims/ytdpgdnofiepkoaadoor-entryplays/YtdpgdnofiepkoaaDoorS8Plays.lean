/-
  The law EntryPlays, walked: for every entry it returns true and changes nothing that was there. Condition: errorType holds error's type.
-/
import Derived.Test.YtdpgdnofiepkoaaDoorS8Awake
namespace Go.Proofs.YtdpgdnofiepkoaaDoor
open Go.RowKit

attribute [local go_sem ↓] old_ldi old_lds old_lden
attribute [local go_sem] oldC_forall isC1_ptr isS1_ptr c1V_ptr
set_option maxRecDepth 10000 in
set_option maxHeartbeats 1000000 in
theorem plays8_few (p d : ByteArray) (k : Int) (h : ¬ (p.size ≤ 600 ∧ d.size ≤ 600)) (W : World) :
    Calls Tryd.prog 6 #[entV p k d] W fun e w' => e = .returned (.bool true) ∧ Below W.heap.size W w' := by
  have HF := Lib.hid (decide_eq_false h)
  have hb0 : Below W.heap.size W (W.alloc (.cells #[.string p, .int .i64 k, .string d] 23)) := (Below.refl _ _).alloc (Nat.le_refl _) _
  have HB0 := Lib.hid hb0
  have HR0 := Lib.hid (enAt_new W p k d)
  clear h hb0
  go_enter Tryd.func6, Tryd.ntmps6
  go_wp2_with fail
  refine (awake8 _).mono ?_
  rintro e w1 ⟨rfl, hb1⟩
  have HB1 := Lib.hid (HB0.out.trans (hb1.mono HB0.out.size))
  have r1 := HR0.out.below hb1
  have c0 := r1.c0
  have c1 := r1.c1
  have c2 := r1.c2
  clear hb1 r1
  go_wp2_with fail
  refine (few8 p d k _).mono ?_
  rintro e w2 ⟨rfl, hb2⟩
  rw [HF.out]
  have HB2 := Lib.hid (HB1.out.trans (hb2.mono HB1.out.size))
  clear hb2 c0 c1 c2
  go_wp2_with fail
  refine (awake8 _).mono ?_
  rintro e w3 ⟨rfl, hb3⟩
  have HB3 := Lib.hid (HB2.out.trans (hb3.mono HB2.out.size))
  clear hb3
  go_wp2
  go_ret
  exact ⟨rfl, HB3.out⟩
set_option maxRecDepth 10000 in
set_option maxHeartbeats 4000000 in
theorem plays8_good (p d : ByteArray) (k : Int) (h : p.size ≤ 600 ∧ d.size ≤ 600) (W : World) (hg : EtLaid W) :
    Calls Tryd.prog 6 #[entV p k d] W fun e w' => e = .returned (.bool true) ∧ Below W.heap.size W w' := by
  have HF := Lib.hid (decide_eq_true h)
  have hb0 : Below W.heap.size W (W.alloc (.cells #[.string p, .int .i64 k, .string d] 23)) := (Below.refl _ _).alloc (Nat.le_refl _) _
  have HB0 := Lib.hid hb0
  have HR0 := Lib.hid (enAt_new W p k d)
  have HG := Lib.hid hg
  obtain ⟨rv, hrv⟩ : ∃ rv, rightE p k d = rv := ⟨_, rfl⟩
  -- what Lay answers, and the document's Lay
  obtain ⟨L, ev, ce, hlay, hcode, href, hce⟩ : ∃ (L : ByteArray) (ev : Value) (ce : Int), (∀ X, Calls Tryd.prog 11 #[entV p k d] X fun e w' => e = .returned (.tuple #[.string L, ev]) ∧ Below X.heap.size X w') ∧ (∀ X, EtLaid X → Calls Tryd.prog 12 #[ev] X fun e w' => e = .returned (.int .i64 ce) ∧ Below X.heap.size X w') ∧ (rv = true → ∀ X, Calls Tryd.prog 21 #[entV p k d] X fun e w' => e = .returned (.string L) ∧ Below X.heap.size X w') ∧ (ce == 0) = rv := by
    cases hr : rightE p k d with
    | false =>
      refine ⟨_, _, 1, fun X => lay8_bad p k d (by unfold maxLen; omega) hr X, fun X hX => code_no 1 X hX, fun e => ?_, ?_⟩
      · rw [← hrv, hr] at e
        cases e
      · rw [← hrv, hr]
        rfl
    | true =>
      obtain ⟨_, a2, a3, _, _⟩ := rightE_parts hr
      obtain ⟨m, rfl⟩ : ∃ m : Nat, k = (m : Int) := ⟨k.toNat, by omega⟩
      refine ⟨_, _, 0, fun X => lay8_good p m d hr X, fun X _ => ?_, fun _ X => refLay_any p m d (by omega) (by omega) (by omega) X, ?_⟩
      · refine (code_zero X).mono ?_
        rintro e w' ⟨rfl, rfl⟩
        exact ⟨rfl, Below.refl _ _⟩
      · rw [← hrv, hr]
        rfl
  have HLAY := Lib.hid hlay
  have HREF := Lib.hid href
  have HRR := Lib.hid (fun X => refRight_any p k d (by omega) X)
  have HRI : Hid (∀ w0 w', OldC w0 w' → Calls Tryd.prog 13 #[entV p k d] w' fun e w'' => e = .returned (.bool rv) ∧ OldC w0 w'') := fun w0 w' hw' => by
    rw [← hrv]
    refine (right8 p k d (by unfold maxLen; omega) w').mono ?_
    rintro e w'' ⟨rfl, hb⟩
    exact ⟨rfl, hw'.then hb⟩
  obtain ⟨hv, hhv⟩ : ∃ hv, (k == 2 || k == 4) = hv := ⟨_, rfl⟩
  have HHO : Hid (∀ w0 w', OldC w0 w' → Calls Tryd.prog 22 #[entV p k d] w' fun e w'' => e = .returned (.bool hv) ∧ OldC w0 w'') := fun w0 w' hw' => by
    rw [← hhv]
    refine (holds8 p d k w').mono ?_
    rintro e w'' ⟨rfl, hb⟩
    exact ⟨rfl, hw'.then hb⟩
  have HCF : Hid (∀ w0, EtLaid w0 → ∀ w', OldC w0 w' → Calls Tryd.prog 12 #[ev] w' fun e w'' => e = .returned (.int .i64 ce) ∧ OldC w0 w'') := fun w0 h0 w' hw' => by
    refine (hcode w' (h0.below h0.lt hw')).mono ?_
    rintro e w'' ⟨rfl, hb⟩
    exact ⟨rfl, hw'.then hb⟩
  have HCG : Hid (∀ w0, EtLaid w0 → ∀ w', OldC w0 w' → Calls Tryd.prog 12 #[.iface 43 (.int .i64 1)] w' fun e w'' => e = .returned (.int .i64 1) ∧ OldC w0 w'') := fun w0 h0 w' hw' => by
    refine (code_no 1 w' (h0.below h0.lt hw')).mono ?_
    rintro e w'' ⟨rfl, hb⟩
    exact ⟨rfl, hw'.then hb⟩
  have ways : ((k == 2) = true ∧ hv = true) ∨ ((k == 2) = false ∧ (k == 4) = true ∧ hv = true) ∨ ((k == 2) = false ∧ (k == 4) = false ∧ hv = false) := by
    rw [← hhv]
    cases (k == 2) <;> cases (k == 4) <;> simp
  have HWY := Lib.hid ways
  have HRV := Lib.hid hrv
  have HCE := Lib.hid hce
  clear h hb0 hg hlay href hcode hhv ways hrv hce
  go_enter Tryd.func6, Tryd.ntmps6
  go_wp2_with fail
  refine (awake8 _).mono ?_
  rintro e w1 ⟨rfl, hb1⟩
  have HB1 := Lib.hid (HB0.out.trans (hb1.mono HB0.out.size))
  have r1 := HR0.out.below hb1
  have HR1 := Lib.hid r1
  have c0 := r1.c0
  have c1 := r1.c1
  have c2 := r1.c2
  clear hb1 r1
  go_wp2_with fail
  refine (few8 p d k _).mono ?_
  rintro e w2 ⟨rfl, hb2⟩
  rw [HF.out]
  have HB2 := Lib.hid (HB1.out.trans (hb2.mono HB1.out.size))
  have r2 := HR1.out.below hb2
  have HR2 := Lib.hid r2
  have d0 := r2.c0
  have d1 := r2.c1
  have d2 := r2.c2
  clear hb2 c0 c1 c2 r2
  go_wp2_with fail
  refine (HLAY.out _).mono ?_
  rintro e w3 ⟨rfl, hb3⟩
  have HB3 := Lib.hid (HB2.out.trans (hb3.mono HB2.out.size))
  have r3 := HR2.out.below hb3
  have HR3 := Lib.hid r3
  have e0 := r3.c0
  have e1 := r3.c1
  have e2 := r3.c2
  clear hb3 d0 d1 d2 r3
  go_wp2_with fail
  refine (HRR.out _).mono ?_
  rintro e w4 ⟨rfl, hb4⟩
  rw [HRV.out]
  have HB4 := Lib.hid (HB3.out.trans (hb4.mono HB3.out.size))
  have HR4 := Lib.hid (HR3.out.below hb4)
  clear hb4 e0 e1 e2
  go_wp2_with fail
  refine (read8_nil _).mono ?_
  rintro e w5 ⟨rfl, hb5⟩
  have hb6 : Below w4.heap.size w4 (w5.alloc (.cells #[.string ⟨#[]⟩, .int .i64 0, .string ⟨#[]⟩] 23)) := hb5.alloc hb5.size _
  have HB6 := Lib.hid (HB4.out.trans (hb6.mono HB4.out.size))
  have r6 := HR4.out.below hb6
  have HG6 := Lib.hid (HG.out.below HG.out.lt HB6.out)
  go_wp2_with fail
  obtain ⟨w6, hw6⟩ : ∃ w6, w5.alloc (.cells #[.string ⟨#[]⟩, .int .i64 0, .string ⟨#[]⟩] 23) = w6 := ⟨_, rfl⟩
  rw [hw6] at HB6 r6 HG6 ⊢
  obtain ⟨i1, i2⟩ := r6.is
  have s1 := r6.c1
  clear hb5 hb6 r6 hw6
  have HREFQ : Hid (rv = true → ∀ w0 w', OldC w0 w' → Calls Tryd.prog 21 #[entV p k d] w' fun e w'' => e = .returned (.string L) ∧ OldC w0 w'') := fun e w0 w' hw' => by
    refine (HREF.out e w').mono ?_
    rintro e w'' ⟨rfl, hb⟩
    exact ⟨rfl, hw'.then hb⟩
  cases hrv : rv with
  | true =>
    rw [hrv] at HCE
    have hce : (ce == 0) = true := HCE.out
    rcases HWY.out with ⟨y1, y2⟩ | ⟨y1, y2, y3⟩ | ⟨y1, y2, y3⟩
    all_goals
      refine wp_region_old (by kernel_rfl) (by kernel_rfl) ?_
      repeat (go_big_quiet_step ((first | (intro hw; with_reducible exact HRI.out _ _ hw) | (intro hw; with_reducible exact HCF.out _ HG6.out _ hw) | (intro hw; with_reducible exact HCG.out _ HG6.out _ hw) | (intro hw; with_reducible exact HHO.out _ _ hw) | (intro hw; with_reducible exact HREFQ.out hrv _ _ hw))))
      refine wpQuiet_nil ?_
      intro w9 hw9
      have HE := Lib.hid (show Below W.heap.size W w9 from HB6.out.trans (Below.mono hw9 HB6.out.size))
      clear hw9 i1 i2 s1
      go_wp2
      go_ret
      exact ⟨by first | rfl | (simp; done) | (simp; omega), HE.out⟩
  | false =>
    rw [hrv] at HCE
    have hce : (ce == 0) = false := HCE.out
    rcases HWY.out with ⟨y1, y2⟩ | ⟨y1, y2, y3⟩ | ⟨y1, y2, y3⟩
    all_goals
      refine wp_region_old (by kernel_rfl) (by kernel_rfl) ?_
      repeat (go_big_quiet_step ((first | (intro hw; with_reducible exact HRI.out _ _ hw) | (intro hw; with_reducible exact HCF.out _ HG6.out _ hw) | (intro hw; with_reducible exact HCG.out _ HG6.out _ hw) | (intro hw; with_reducible exact HHO.out _ _ hw))))
      refine wpQuiet_nil ?_
      intro w9 hw9
      have HE := Lib.hid (show Below W.heap.size W w9 from HB6.out.trans (Below.mono hw9 HB6.out.size))
      clear hw9 i1 i2 s1
      go_wp2
      go_ret
      exact ⟨by first | rfl | (simp; done) | (simp; omega), HE.out⟩
theorem plays8_any (p d : ByteArray) (k : Int) (W : World) (hg : EtLaid W) :
    Calls Tryd.prog 6 #[entV p k d] W fun e w' => e = .returned (.bool true) ∧ Below W.heap.size W w' := by
  by_cases h : p.size ≤ 600 ∧ d.size ≤ 600
  · exact plays8_good p d k h W hg
  · exact plays8_few p d k h W
end Go.Proofs.YtdpgdnofiepkoaaDoor
