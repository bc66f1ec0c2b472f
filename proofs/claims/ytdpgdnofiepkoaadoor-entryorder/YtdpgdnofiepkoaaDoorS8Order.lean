/-
  The law EntryOrder, walked: for every two entries it returns true and changes nothing that was there. No condition.
-/
import Derived.Test.YtdpgdnofiepkoaaDoorS8Awake
import Derived.Test.YtdpgdnofiepkoaaDoorS8Less
namespace Go.Proofs.YtdpgdnofiepkoaaDoor
open Go.RowKit

theorem less_tri : ∀ a b : List UInt8, (a = b ∧ Op.bytesLess a b = false ∧ Op.bytesLess b a = false) ∨ (a ≠ b ∧ Op.bytesLess a b = true ∧ Op.bytesLess b a = false) ∨ (a ≠ b ∧ Op.bytesLess a b = false ∧ Op.bytesLess b a = true)
  | [], [] => .inl ⟨rfl, rfl, rfl⟩
  | [], _ :: _ => .inr (.inl ⟨by simp, rfl, rfl⟩)
  | _ :: _, [] => .inr (.inr ⟨by simp, rfl, rfl⟩)
  | c :: x, d :: y => by
    have e1 : Op.bytesLess (c :: x) (d :: y) = (decide (c < d) || (c == d && Op.bytesLess x y)) := rfl
    have e2 : Op.bytesLess (d :: y) (c :: x) = (decide (d < c) || (d == c && Op.bytesLess y x)) := rfl
    rw [e1, e2]
    by_cases h : c = d
    · subst h
      have hl : ¬ c < c := by rw [UInt8.lt_iff_toNat_lt]; omega
      rw [decide_eq_false hl]
      simp only [Bool.false_or, beq_self_eq_true, Bool.true_and, List.cons.injEq, true_and, ne_eq]
      exact less_tri x y
    · have h2 : ¬ d = c := fun e => h e.symm
      rw [beq_eq_false_iff_ne.2 h, beq_eq_false_iff_ne.2 h2]
      simp only [Bool.false_and, Bool.or_false]
      have hne : c :: x ≠ d :: y := fun e => h (List.cons.inj e).1
      by_cases hl : c < d
      · refine .inr (.inl ⟨hne, decide_eq_true hl, decide_eq_false ?_⟩)
        rw [UInt8.lt_iff_toNat_lt] at hl ⊢
        omega
      · refine .inr (.inr ⟨hne, decide_eq_false hl, decide_eq_true ?_⟩)
        rw [UInt8.lt_iff_toNat_lt] at hl ⊢
        have : c.toNat ≠ d.toNat := fun e => h (UInt8.toNat_inj.1 e)
        omega
theorem less_of_prefix : ∀ {a b : List UInt8}, a <+: b → a.length < b.length → Op.bytesLess a b = true
  | [], [], _, h => by simp at h
  | [], _ :: _, _, _ => rfl
  | c :: x, [], h, _ => by simp at h
  | c :: x, d :: y, h, hl => by
    obtain ⟨rfl, h2⟩ := List.cons_prefix_cons.1 h
    have := less_of_prefix h2 (by simpa using hl)
    show (decide (c < c) || (c == c && Op.bytesLess x y)) = true
    rw [this]
    simp
attribute [local go_sem ↓] old_ldi old_lds old_lden
attribute [local go_sem] oldC_forall isC1_ptr isS1_ptr c1V_ptr
theorem en_two (W : World) (p q d f : ByteArray) (k m : Int) : ∃ V, (W.alloc (.cells #[.string p, .int .i64 k, .string d] 23)).alloc (.cells #[.string q, .int .i64 m, .string f] 23) = V ∧ EnAt V W.heap.size p k d ∧ EnAt V (W.heap.size + 1) q m f ∧ Below W.heap.size W V := by
  refine ⟨_, rfl, (enAt_new W p k d).below ((Below.refl _ _).alloc (Nat.le_refl _) _), ?_, ((Below.refl _ _).alloc (Nat.le_refl _) _).alloc (by simp) _⟩
  have := enAt_new (W.alloc (.cells #[.string p, .int .i64 k, .string d] 23)) q m f
  rwa [show (W.alloc (.cells #[.string p, .int .i64 k, .string d] 23)).heap.size = W.heap.size + 1 by simp] at this
set_option maxRecDepth 10000 in
set_option maxHeartbeats 2000000 in
theorem order_many (p q d f : ByteArray) (k m : Int) (h : ¬ (p.size ≤ 600 ∧ d.size ≤ 600) ∨ ((p.size ≤ 600 ∧ d.size ≤ 600) ∧ ¬ (q.size ≤ 600 ∧ f.size ≤ 600))) (W : World) :
    Calls Tryd.prog 5 #[entV p k d, entV q m f] W fun e w' => e = .returned (.bool true) ∧ Below W.heap.size W w' := by
  obtain ⟨V, hV, r0, q0, hb0⟩ := en_two W p q d f k m
  have HB0 := Lib.hid hb0
  have HR0 := Lib.hid r0
  have HQ0 := Lib.hid q0
  clear hb0 r0 q0
  rcases h with h | ⟨h, h2⟩
  · have HF := Lib.hid (decide_eq_false h)
    clear h
    go_enter Tryd.func5, Tryd.ntmps5
    go_wp2_with fail
    refine (awake8 _).mono ?_
    rintro e w1 ⟨rfl, hb1⟩
    have HB1 := Lib.hid (HB0.out.trans (hb1.mono HB0.out.size))
    have r1 := HR0.out.below hb1
    have c0 := r1.c0
    have c1 := r1.c1
    have c2 := r1.c2
    clear hb1 r1
    go_wp2_with fail
    refine (few8 p d k _).mono ?_
    rintro e w2 ⟨rfl, hb2⟩
    rw [HF.out]
    have HB2 := Lib.hid (HB1.out.trans (hb2.mono HB1.out.size))
    clear hb2 c0 c1 c2
    go_wp2_with fail
    refine (awake8 _).mono ?_
    rintro e w3 ⟨rfl, hb3⟩
    have HB3 := Lib.hid (HB2.out.trans (hb3.mono HB2.out.size))
    clear hb3
    go_wp2
    go_ret
    exact ⟨rfl, HB3.out⟩
  · have HF := Lib.hid (decide_eq_true h)
    have HF2 := Lib.hid (decide_eq_false h2)
    clear h h2
    go_enter Tryd.func5, Tryd.ntmps5
    go_wp2_with fail
    refine (awake8 _).mono ?_
    rintro e w1 ⟨rfl, hb1⟩
    have HB1 := Lib.hid (HB0.out.trans (hb1.mono HB0.out.size))
    have r1 := HR0.out.below hb1
    have HQ1 := Lib.hid (HQ0.out.below hb1)
    have c0 := r1.c0
    have c1 := r1.c1
    have c2 := r1.c2
    clear hb1 r1
    go_wp2_with fail
    refine (few8 p d k _).mono ?_
    rintro e w2 ⟨rfl, hb2⟩
    rw [HF.out]
    have HB2 := Lib.hid (HB1.out.trans (hb2.mono HB1.out.size))
    have q2 := HQ1.out.below hb2
    have d0 := q2.c0
    have d1 := q2.c1
    have d2 := q2.c2
    clear hb2 c0 c1 c2 q2
    go_wp2_with fail
    refine (few8 q f m _).mono ?_
    rintro e w3 ⟨rfl, hb3⟩
    rw [HF2.out]
    have HB3 := Lib.hid (HB2.out.trans (hb3.mono HB2.out.size))
    clear hb3 d0 d1 d2
    go_wp2_with fail
    refine (awake8 _).mono ?_
    rintro e w4 ⟨rfl, hb4⟩
    have HB4 := Lib.hid (HB3.out.trans (hb4.mono HB3.out.size))
    clear hb4
    go_wp2
    go_ret
    exact ⟨rfl, HB4.out⟩
set_option maxRecDepth 10000 in
set_option maxHeartbeats 4000000 in
theorem order_few (p q d f : ByteArray) (k m : Int) (h1 : p.size ≤ 600 ∧ d.size ≤ 600) (h2 : q.size ≤ 600 ∧ f.size ≤ 600) (W : World) :
    Calls Tryd.prog 5 #[entV p k d, entV q m f] W fun e w' => e = .returned (.bool true) ∧ Below W.heap.size W w' := by
  obtain ⟨V, hV, r0, q0, hb0⟩ := en_two W p q d f k m
  have HB0 := Lib.hid hb0
  have HR0 := Lib.hid r0
  have HQ0 := Lib.hid q0
  have HF := Lib.hid (decide_eq_true h1)
  have HF2 := Lib.hid (decide_eq_true h2)
  obtain ⟨x, hx⟩ : ∃ x, Op.bytesLess p.data.toList q.data.toList = x := ⟨_, rfl⟩
  obtain ⟨y, hy⟩ : ∃ y, Op.bytesLess q.data.toList p.data.toList = y := ⟨_, rfl⟩
  obtain ⟨u, hu⟩ : ∃ u, und q.data.toList p.data.toList = u := ⟨_, rfl⟩
  have ways : (x = true ∧ y = false ∧ (p.toList == q.toList) = false ∧ u = true) ∨ (x = true ∧ y = false ∧ (p.toList == q.toList) = false ∧ u = false) ∨ (x = false ∧ y = true ∧ (p.toList == q.toList) = false ∧ u = false) ∨ (x = false ∧ y = false ∧ (p.toList == q.toList) = true ∧ u = false) := by
    rw [Lib.toList_data, Lib.toList_data]
    have hux : u = true → x = true := fun e => by
      rw [← hu] at e
      obtain ⟨h3, h4⟩ := und_longer e
      rw [← hx]
      exact less_of_prefix h3 h4
    rcases less_tri p.data.toList q.data.toList with ⟨h3, h4, h5⟩ | ⟨h3, h4, h5⟩ | ⟨h3, h4, h5⟩
    · rw [hx] at h4
      rw [hy] at h5
      have : u = false := by
        cases hu2 : u with
        | false => rfl
        | true => rw [hux hu2] at h4; cases h4
      exact .inr (.inr (.inr ⟨h4, h5, by rw [h3]; simp, this⟩))
    · rw [hx] at h4
      rw [hy] at h5
      cases u with
      | true => exact .inl ⟨h4, h5, beq_eq_false_iff_ne.2 h3, rfl⟩
      | false => exact .inr (.inl ⟨h4, h5, beq_eq_false_iff_ne.2 h3, rfl⟩)
    · rw [hx] at h4
      rw [hy] at h5
      have : u = false := by
        cases hu2 : u with
        | false => rfl
        | true => rw [hux hu2] at h4; cases h4
      exact .inr (.inr (.inl ⟨h4, h5, beq_eq_false_iff_ne.2 h3, this⟩))
  have HWY := Lib.hid ways
  have HLX : Hid (∀ w0 w', OldC w0 w' → Calls Tryd.prog 17 #[entV p k d, entV q m f] w' fun e w'' => e = .returned (.bool x) ∧ OldC w0 w'') := fun w0 w' hw' => by
    rw [← hx]
    refine (less8 p q d f k m w').mono ?_
    rintro e w'' ⟨rfl, hb⟩
    exact ⟨rfl, hw'.then hb⟩
  have HLY : Hid (∀ w0 w', OldC w0 w' → Calls Tryd.prog 17 #[entV q m f, entV p k d] w' fun e w'' => e = .returned (.bool y) ∧ OldC w0 w'') := fun w0 w' hw' => by
    rw [← hy]
    refine (less8 q p f d m k w').mono ?_
    rintro e w'' ⟨rfl, hb⟩
    exact ⟨rfl, hw'.then hb⟩
  have HRX := Lib.hid (fun X => refLess_any p q (by omega) (by omega) X)
  have HRY := Lib.hid (fun X => refLess_any q p (by omega) (by omega) X)
  have HUU := Lib.hid (fun X => under_any q p (by omega) (by omega) X)
  have HX := Lib.hid hx
  have HY := Lib.hid hy
  have HU := Lib.hid hu
  clear hb0 r0 q0 h1 h2 ways hx hy hu
  go_enter Tryd.func5, Tryd.ntmps5
  go_wp2_with fail
  refine (awake8 _).mono ?_
  rintro e w1 ⟨rfl, hb1⟩
  have HB1 := Lib.hid (HB0.out.trans (hb1.mono HB0.out.size))
  have r1 := HR0.out.below hb1
  have HR1 := Lib.hid r1
  have HQ1 := Lib.hid (HQ0.out.below hb1)
  have c0 := r1.c0
  have c1 := r1.c1
  have c2 := r1.c2
  clear hb1 r1
  go_wp2_with fail
  refine (few8 p d k _).mono ?_
  rintro e w2 ⟨rfl, hb2⟩
  rw [HF.out]
  have HB2 := Lib.hid (HB1.out.trans (hb2.mono HB1.out.size))
  have HR2 := Lib.hid (HR1.out.below hb2)
  have q2 := HQ1.out.below hb2
  have HQ2 := Lib.hid q2
  have d0 := q2.c0
  have d1 := q2.c1
  have d2 := q2.c2
  clear hb2 c0 c1 c2 q2
  go_wp2_with fail
  refine (few8 q f m _).mono ?_
  rintro e w3 ⟨rfl, hb3⟩
  rw [HF2.out]
  have HB3 := Lib.hid (HB2.out.trans (hb3.mono HB2.out.size))
  have r3 := HR2.out.below hb3
  have q3 := HQ2.out.below hb3
  have HR3 := Lib.hid r3
  have HQ3 := Lib.hid q3
  obtain ⟨i1, i2⟩ := r3.is
  obtain ⟨j1, j2⟩ := q3.is
  clear hb3 d0 d1 d2 r3 q3 hV
  go_wp2_with fail
  refine wp_region_old (by kernel_rfl) (by kernel_rfl) ?_
  repeat (go_big_quiet_step ((first | (intro hw; with_reducible exact HLX.out _ _ hw) | (intro hw; with_reducible exact HLY.out _ _ hw))))
  refine wpQuiet_nil ?_
  intro w4 hw4
  have HB4 := Lib.hid (show Below W.heap.size W w4 from HB3.out.trans (Below.mono hw4 HB3.out.size))
  have r4 := HR3.out.below hw4
  have q4 := HQ3.out.below hw4
  have HR4 := Lib.hid r4
  have HQ4 := Lib.hid q4
  have c0 := r4.c0
  have d0 := q4.c0
  clear hw4 i1 i2 j1 j2 r4 q4
  rcases HWY.out with ⟨rfl, rfl, y3, rfl⟩ | ⟨rfl, rfl, y3, rfl⟩ | ⟨rfl, rfl, y3, rfl⟩ | ⟨rfl, rfl, y3, rfl⟩
  all_goals
    go_wp2_with fail
    refine (HRX.out _).mono ?_
    rintro e w5 ⟨rfl, hb5⟩
    rw [HX.out]
    have HB5 := Lib.hid (HB4.out.trans (hb5.mono HB4.out.size))
    have r5 := HR4.out.below hb5
    have q5 := HQ4.out.below hb5
    have HR5 := Lib.hid r5
    have HQ5 := Lib.hid q5
    have e0 := r5.c0
    have f0 := q5.c0
    clear hb5 r5 q5 c0 d0
    go_wp2_with fail
    refine (HRY.out _).mono ?_
    rintro e w6 ⟨rfl, hb6⟩
    rw [HY.out]
    have HB6 := Lib.hid (HB5.out.trans (hb6.mono HB5.out.size))
    have r6 := HR5.out.below hb6
    have q6 := HQ5.out.below hb6
    have g0 := r6.c0
    have h0 := q6.c0
    clear hb6 r6 q6 e0 f0
    go_wp2_with fail
    refine (HUU.out _).mono ?_
    rintro e w7 ⟨rfl, hb7⟩
    rw [HU.out]
    have HB7 := Lib.hid (HB6.out.trans (hb7.mono HB6.out.size))
    clear hb7
    go_wp2
    go_ret
    exact ⟨by first | rfl | (simp; done) | (simp; omega), HB7.out⟩
theorem order8_any (p q d f : ByteArray) (k m : Int) (W : World) :
    Calls Tryd.prog 5 #[entV p k d, entV q m f] W fun e w' => e = .returned (.bool true) ∧ Below W.heap.size W w' := by
  by_cases h1 : p.size ≤ 600 ∧ d.size ≤ 600
  · by_cases h2 : q.size ≤ 600 ∧ f.size ≤ 600
    · exact order_few p q d f k m h1 h2 W
    · exact order_many p q d f k m (.inr ⟨h1, h2⟩) W
  · exact order_many p q d f k m (.inl h1) W
end Go.Proofs.YtdpgdnofiepkoaaDoor
