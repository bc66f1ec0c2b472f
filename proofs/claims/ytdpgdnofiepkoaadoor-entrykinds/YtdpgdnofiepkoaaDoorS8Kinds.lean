/-
  The law EntryKinds, walked: for every entry and number it returns true and changes nothing that was there. Condition: errorType holds error's type.
-/
import Derived.Test.YtdpgdnofiepkoaaDoorS8Awake
namespace Go.Proofs.YtdpgdnofiepkoaaDoor
open Go.RowKit

attribute [local go_sem ↓] old_ldi old_lds old_lden
attribute [local go_sem] oldC_forall isC1_ptr isS1_ptr c1V_ptr
set_option maxRecDepth 10000 in
set_option maxHeartbeats 1000000 in
theorem kinds_few (p d : ByteArray) (k c : Int) (h : ¬ (p.size ≤ 600 ∧ d.size ≤ 600)) (W : World) :
    Calls Tryd.prog 7 #[entV p k d, .int .u8 c] W fun e w' => e = .returned (.bool true) ∧ Below W.heap.size W w' := by
  have HF := Lib.hid (decide_eq_false h)
  have hb0 : Below W.heap.size W (W.alloc (.cells #[.string p, .int .i64 k, .string d] 23)) := (Below.refl _ _).alloc (Nat.le_refl _) _
  have HB0 := Lib.hid hb0
  have HR0 := Lib.hid (enAt_new W p k d)
  clear h hb0
  go_enter Tryd.func7, Tryd.ntmps7
  go_wp2_with fail
  refine (awake8 _).mono ?_
  rintro e w1 ⟨rfl, hb1⟩
  have HB1 := Lib.hid (HB0.out.trans (hb1.mono HB0.out.size))
  have r1 := HR0.out.below hb1
  have c0 := r1.c0
  have c1 := r1.c1
  have c2 := r1.c2
  clear hb1 r1
  go_wp2_with fail
  refine (few8 p d k _).mono ?_
  rintro e w2 ⟨rfl, hb2⟩
  rw [HF.out]
  have HB2 := Lib.hid (HB1.out.trans (hb2.mono HB1.out.size))
  clear hb2 c0 c1 c2
  go_wp2_with fail
  refine (awake8 _).mono ?_
  rintro e w3 ⟨rfl, hb3⟩
  have HB3 := Lib.hid (HB2.out.trans (hb3.mono HB2.out.size))
  clear hb3
  go_wp2
  go_ret
  exact ⟨rfl, HB3.out⟩
set_option maxRecDepth 10000 in
set_option maxHeartbeats 1000000 in
theorem kinds_bad (p d : ByteArray) (k c : Int) (h : p.size ≤ 600 ∧ d.size ≤ 600) (hr : rightE p k d = false) (W : World) :
    Calls Tryd.prog 7 #[entV p k d, .int .u8 c] W fun e w' => e = .returned (.bool true) ∧ Below W.heap.size W w' := by
  have HF := Lib.hid (decide_eq_true h)
  have HRV := Lib.hid hr
  have HRI := Lib.hid (fun X => right8 p k d (by unfold maxLen; omega) X)
  have hb0 : Below W.heap.size W (W.alloc (.cells #[.string p, .int .i64 k, .string d] 23)) := (Below.refl _ _).alloc (Nat.le_refl _) _
  have HB0 := Lib.hid hb0
  have HR0 := Lib.hid (enAt_new W p k d)
  clear h hb0 hr
  go_enter Tryd.func7, Tryd.ntmps7
  go_wp2_with fail
  refine (awake8 _).mono ?_
  rintro e w1 ⟨rfl, hb1⟩
  have HB1 := Lib.hid (HB0.out.trans (hb1.mono HB0.out.size))
  have r1 := HR0.out.below hb1
  have HR1 := Lib.hid r1
  have c0 := r1.c0
  have c1 := r1.c1
  have c2 := r1.c2
  clear hb1 r1
  go_wp2_with fail
  refine (few8 p d k _).mono ?_
  rintro e w2 ⟨rfl, hb2⟩
  rw [HF.out]
  have HB2 := Lib.hid (HB1.out.trans (hb2.mono HB1.out.size))
  have r2 := HR1.out.below hb2
  have d0 := r2.c0
  have d1 := r2.c1
  have d2 := r2.c2
  clear hb2 c0 c1 c2 r2
  go_wp2_with fail
  refine (HRI.out _).mono ?_
  rintro e w3 ⟨rfl, hb3⟩
  rw [HRV.out]
  have HB3 := Lib.hid (HB2.out.trans (hb3.mono HB2.out.size))
  clear hb3 d0 d1 d2
  go_wp2_with fail
  refine (awake8 _).mono ?_
  rintro e w4 ⟨rfl, hb4⟩
  have HB4 := Lib.hid (HB3.out.trans (hb4.mono HB3.out.size))
  clear hb4
  go_wp2
  go_ret
  exact ⟨rfl, HB4.out⟩
set_option maxRecDepth 10000 in
set_option maxHeartbeats 2000000 in
theorem kinds_good (p d : ByteArray) (k : Int) (c : Nat) (hc : c < 256) (h : p.size ≤ 600 ∧ d.size ≤ 600) (hr : rightE p k d = true) (W : World) :
    Calls Tryd.prog 7 #[entV p k d, .int .u8 (c : Int)] W fun e w' => e = .returned (.bool true) ∧ Below W.heap.size W w' := by
  obtain ⟨m, hm⟩ : ∃ m : Nat, 1 + c % 4 = m := ⟨_, rfl⟩
  obtain ⟨q, hq⟩ : ∃ q : Nat, c % 4 = q := ⟨_, rfl⟩
  have hw0 : IntKind.i64.wrap (c : Int) = (c : Int) := IntWalk.i64_in _ (by omega)
  have hw1 : (c : Int) % 4 = (q : Int) := by omega
  have hw2 : IntKind.i64.wrap (1 + (q : Int)) = (m : Int) := by
    rw [show 1 + (q : Int) = (m : Int) by omega]
    exact IntWalk.i64_in _ (by omega)
  obtain ⟨a1, a2, a3, a4, a5⟩ := rightE_parts hr
  have HF := Lib.hid (decide_eq_true h)
  have HRV := Lib.hid hr
  have HRI := Lib.hid (fun X => right8 p k d (by unfold maxLen; omega) X)
  have hge : ∃ n, dp p.data.toList = n ∧ 1 ≤ n := ⟨_, rfl, a1⟩
  obtain ⟨n, hn, hn1⟩ := hge
  have hsb := size_beq d
  have ways : (((m : Int) == 1) = true ∧ rightE p (m : Int) d = true ∧ (k == 1) = true) ∨ (((m : Int) == 1) = true ∧ rightE p (m : Int) d = true ∧ (k == 1) = false ∧ (d.toList == []) = true) ∨ (((m : Int) == 1) = false ∧ (d.toList == []) = true ∧ rightE p (m : Int) d = true ∧ (k == 1) = true) ∨ (((m : Int) == 1) = false ∧ (d.toList == []) = true ∧ rightE p (m : Int) d = true ∧ (k == 1) = false) ∨ (((m : Int) == 1) = false ∧ (d.toList == []) = false ∧ rightE p (m : Int) d = false ∧ (k == 1) = true) := by
    rw [hsb]
    by_cases e1 : m = 1
    · have g1 : ((m : Int) == 1) = true := by rw [e1]; rfl
      have gr : rightE p (m : Int) d = true := rightE_of a1 (.inl ⟨by omega, a4⟩)
      by_cases e2 : k = 1
      · exact .inl ⟨g1, gr, by rw [e2]; rfl⟩
      · exact .inr (.inl ⟨g1, gr, beq_eq_false_iff_ne.2 e2, decide_eq_true (a5.resolve_left e2)⟩)
    · have g1 : ((m : Int) == 1) = false := beq_eq_false_iff_ne.2 (by omega)
      by_cases e3 : d.size = 0
      · have gr : rightE p (m : Int) d = true := rightE_of a1 (.inr ⟨by omega, e3⟩)
        by_cases e2 : k = 1
        · exact .inr (.inr (.inl ⟨g1, decide_eq_true e3, gr, by rw [e2]; rfl⟩))
        · exact .inr (.inr (.inr (.inl ⟨g1, decide_eq_true e3, gr, beq_eq_false_iff_ne.2 e2⟩)))
      · refine .inr (.inr (.inr (.inr ⟨g1, decide_eq_false e3, ?_, ?_⟩)))
        · rw [← Bool.not_eq_true, rightE_iff]
          omega
        · rw [a5.resolve_right e3]
          rfl
  have HRM := Lib.hid (fun X => right8 p (m : Int) d (by unfold maxLen; omega) X)
  have HDP : Hid (∀ w0 w', OldC w0 w' → Calls Tryd.prog 23 #[.string p] w' fun e w'' => e = .returned (.int .i64 n) ∧ OldC w0 w'') := fun w0 w' hw' => by
    rw [← hn]
    refine (deep_any p (by omega) w').mono ?_
    rintro e w'' ⟨rfl, hb⟩
    exact ⟨rfl, hw'.then hb⟩
  have hb0 : Below W.heap.size W (W.alloc (.cells #[.string p, .int .i64 k, .string d] 23)) := (Below.refl _ _).alloc (Nat.le_refl _) _
  have HB0 := Lib.hid hb0
  have HR0 := Lib.hid (enAt_new W p k d)
  clear h hb0 hr hm hq hn a1 a2 a3 a4 a5 hsb hc
  obtain ⟨rv, hrv⟩ : ∃ rv, rightE p (m : Int) d = rv := ⟨_, rfl⟩
  have HRM2 : Hid (∀ w0 w', OldC w0 w' → Calls Tryd.prog 13 #[entV p (m : Int) d] w' fun e w'' => e = .returned (.bool rv) ∧ OldC w0 w'') := fun w0 w' hw' => by
    rw [← hrv]
    refine (HRM.out w').mono ?_
    rintro e w'' ⟨rfl, hb⟩
    exact ⟨rfl, hw'.then hb⟩
  rw [hrv] at ways
  have HWY := Lib.hid ways
  clear ways hrv HRM
  go_enter Tryd.func7, Tryd.ntmps7
  go_wp2_with fail
  refine (awake8 _).mono ?_
  rintro e w1 ⟨rfl, hb1⟩
  have HB1 := Lib.hid (HB0.out.trans (hb1.mono HB0.out.size))
  have r1 := HR0.out.below hb1
  have HR1 := Lib.hid r1
  have c0 := r1.c0
  have c1 := r1.c1
  have c2 := r1.c2
  clear hb1 r1
  go_wp2_with fail
  refine (few8 p d k _).mono ?_
  rintro e w2 ⟨rfl, hb2⟩
  rw [HF.out]
  have HB2 := Lib.hid (HB1.out.trans (hb2.mono HB1.out.size))
  have r2 := HR1.out.below hb2
  have HR2 := Lib.hid r2
  have d0 := r2.c0
  have d1 := r2.c1
  have d2 := r2.c2
  clear hb2 c0 c1 c2 r2
  go_wp2_with fail
  refine (HRI.out _).mono ?_
  rintro e w3 ⟨rfl, hb3⟩
  rw [HRV.out]
  have HB3 := Lib.hid (HB2.out.trans (hb3.mono HB2.out.size))
  have r3 := HR2.out.below hb3
  have HR3 := Lib.hid r3
  have e0 := r3.c0
  have e1 := r3.c1
  have e2 := r3.c2
  clear hb3 d0 d1 d2 r3
  go_wp2_with fail
  rw [hw1]
  have hb4 : Below w3.heap.size w3 (w3.alloc (.cells #[.string p, .int .i64 (m : Int), .string d] 23)) := (Below.refl _ _).alloc (Nat.le_refl _) _
  have q4 := enAt_new w3 p (m : Int) d
  have HB4 := Lib.hid (HB3.out.trans (hb4.mono HB3.out.size))
  have r4 := HR3.out.below hb4
  obtain ⟨w4, hw4⟩ : ∃ w4, w3.alloc (.cells #[.string p, .int .i64 (m : Int), .string d] 23) = w4 := ⟨_, rfl⟩
  rw [hw4] at HB4 q4 r4 ⊢
  obtain ⟨i1, i2⟩ := q4.is
  have g1 := q4.c1
  have s0 := r4.c0
  have s1 := r4.c1
  have s2 := r4.c2
  clear hb4 q4 r4 hw4 e0 e1 e2 hw0 hw1 hw2
  rcases HWY.out with ⟨y1, y2, y3⟩ | ⟨y1, y2, y3, y4⟩ | ⟨y1, y2, y3, y4⟩ | ⟨y1, y2, y3, y4⟩ | ⟨y1, y2, y3, y4⟩
  all_goals
    refine wp_region_old (by kernel_rfl) (by kernel_rfl) ?_
    repeat (go_big_quiet_step ((first | (intro hw; with_reducible exact HRM2.out _ _ hw) | (intro hw; with_reducible exact HDP.out _ _ hw))))
    refine wpQuiet_nil ?_
    intro w9 hw9
    have HE := Lib.hid (show Below W.heap.size W w9 from HB4.out.trans (Below.mono hw9 HB4.out.size))
    clear hw9 i1 i2 g1 s0 s1 s2
    go_wp2
    go_ret
    exact ⟨by first | rfl | (simp; done) | (simp; omega), HE.out⟩
theorem kinds_any (p d : ByteArray) (k c : Int) (hc : 0 ≤ c ∧ c ≤ 255) (W : World) :
    Calls Tryd.prog 7 #[entV p k d, .int .u8 c] W fun e w' => e = .returned (.bool true) ∧ Below W.heap.size W w' := by
  by_cases h : p.size ≤ 600 ∧ d.size ≤ 600
  · cases hr : rightE p k d with
    | false => exact kinds_bad p d k c h hr W
    | true =>
      obtain ⟨m, rfl⟩ : ∃ m : Nat, c = (m : Int) := ⟨c.toNat, by omega⟩
      exact kinds_good p d k m (by omega) h hr W
  · exact kinds_few p d k c h W
end Go.Proofs.YtdpgdnofiepkoaaDoor
