/-
  The law EntryUnlike, walked: for every two entries it returns true and changes nothing that was there. Condition: errorType holds error's type.
-/
import Derived.Test.YtdpgdnofiepkoaaDoorS8Order
namespace Go.Proofs.YtdpgdnofiepkoaaDoor
open Go.RowKit

/-- What Lay of any entry answers. -/
theorem lay8_any (p d : ByteArray) (k : Int) (hz : p.size ≤ maxLen) : ∃ (L : ByteArray) (ev : Value) (ce : Int), (∀ X, Calls Tryd.prog 11 #[entV p k d] X fun e w' => e = .returned (.tuple #[.string L, ev]) ∧ Below X.heap.size X w') ∧ (∀ X, EtLaid X → Calls Tryd.prog 12 #[ev] X fun e w' => e = .returned (.int .i64 ce) ∧ Below X.heap.size X w') ∧ ((rightE p k d = false ∧ (ce != 0) = true) ∨ (rightE p k d = true ∧ (ce != 0) = false ∧ ∃ m : Nat, k = (m : Int) ∧ L = layE p m d)) := by
  cases hr : rightE p k d with
  | false => exact ⟨_, _, 1, fun X => lay8_bad p k d hz hr X, fun X hX => code_no 1 X hX, .inl ⟨rfl, rfl⟩⟩
  | true =>
    obtain ⟨_, a2, a3, _, _⟩ := rightE_parts hr
    obtain ⟨m, rfl⟩ : ∃ m : Nat, k = (m : Int) := ⟨k.toNat, by omega⟩
    refine ⟨_, _, 0, fun X => lay8_good p m d hr X, fun X _ => ?_, .inr ⟨rfl, rfl, m, rfl, rfl⟩⟩
    refine (code_zero X).mono ?_
    rintro e w' ⟨rfl, rfl⟩
    exact ⟨rfl, Below.refl _ _⟩
set_option maxRecDepth 10000 in
set_option maxHeartbeats 2000000 in
theorem unlike_many (p q d f : ByteArray) (k m : Int) (h : ¬ (p.size ≤ 600 ∧ d.size ≤ 600) ∨ ((p.size ≤ 600 ∧ d.size ≤ 600) ∧ ¬ (q.size ≤ 600 ∧ f.size ≤ 600))) (W : World) :
    Calls Tryd.prog 8 #[entV p k d, entV q m f] W fun e w' => e = .returned (.bool true) ∧ Below W.heap.size W w' := by
  obtain ⟨V, hV, r0, q0, hb0⟩ := en_two W p q d f k m
  have HB0 := Lib.hid hb0
  have HR0 := Lib.hid r0
  have HQ0 := Lib.hid q0
  clear hb0 r0 q0
  rcases h with h | ⟨h, h2⟩
  · have HF := Lib.hid (decide_eq_false h)
    clear h
    go_enter Tryd.func8, Tryd.ntmps8
    go_wp2_with fail
    refine (awake8 _).mono ?_
    rintro e w1 ⟨rfl, hb1⟩
    have HB1 := Lib.hid (HB0.out.trans (hb1.mono HB0.out.size))
    have r1 := HR0.out.below hb1
    have c0 := r1.c0
    have c1 := r1.c1
    have c2 := r1.c2
    clear hb1 r1
    go_wp2_with fail
    refine (few8 p d k _).mono ?_
    rintro e w2 ⟨rfl, hb2⟩
    rw [HF.out]
    have HB2 := Lib.hid (HB1.out.trans (hb2.mono HB1.out.size))
    clear hb2 c0 c1 c2
    go_wp2_with fail
    refine (awake8 _).mono ?_
    rintro e w3 ⟨rfl, hb3⟩
    have HB3 := Lib.hid (HB2.out.trans (hb3.mono HB2.out.size))
    clear hb3
    go_wp2
    go_ret
    exact ⟨rfl, HB3.out⟩
  · have HF := Lib.hid (decide_eq_true h)
    have HF2 := Lib.hid (decide_eq_false h2)
    clear h h2
    go_enter Tryd.func8, Tryd.ntmps8
    go_wp2_with fail
    refine (awake8 _).mono ?_
    rintro e w1 ⟨rfl, hb1⟩
    have HB1 := Lib.hid (HB0.out.trans (hb1.mono HB0.out.size))
    have r1 := HR0.out.below hb1
    have HQ1 := Lib.hid (HQ0.out.below hb1)
    have c0 := r1.c0
    have c1 := r1.c1
    have c2 := r1.c2
    clear hb1 r1
    go_wp2_with fail
    refine (few8 p d k _).mono ?_
    rintro e w2 ⟨rfl, hb2⟩
    rw [HF.out]
    have HB2 := Lib.hid (HB1.out.trans (hb2.mono HB1.out.size))
    have q2 := HQ1.out.below hb2
    have d0 := q2.c0
    have d1 := q2.c1
    have d2 := q2.c2
    clear hb2 c0 c1 c2 q2
    go_wp2_with fail
    refine (few8 q f m _).mono ?_
    rintro e w3 ⟨rfl, hb3⟩
    rw [HF2.out]
    have HB3 := Lib.hid (HB2.out.trans (hb3.mono HB2.out.size))
    clear hb3 d0 d1 d2
    go_wp2_with fail
    refine (awake8 _).mono ?_
    rintro e w4 ⟨rfl, hb4⟩
    have HB4 := Lib.hid (HB3.out.trans (hb4.mono HB3.out.size))
    clear hb4
    go_wp2
    go_ret
    exact ⟨rfl, HB4.out⟩
/-- Of two entries that are laid: they, and their bytes, are alike, or neither are, and the one's begin not the other's. -/
theorem unlike_ways {p q d f L M : ByteArray} {a b : Nat} (hL : L = layE p a d) (hM : M = layE q b f) :
    (p = q ∧ a = b ∧ d = f ∧ L = M) ∨ ((L.toList == M.toList) = false ∧ (((p.toList == q.toList) = false) ∨ (p = q ∧ ((a : Int) == (b : Int)) = false) ∨ (p = q ∧ a = b ∧ (d.toList == f.toList) = false)) ∧ ((M.size : Int) < (L.size : Int) ∨ (¬ (M.size : Int) < (L.size : Int) ∧ (L.size : Int) ≤ (M.size : Int) ∧ ((M.extract 0 L.size).toList == L.toList) = false))) := by
  by_cases h : p = q ∧ a = b ∧ d = f
  · obtain ⟨rfl, rfl, rfl⟩ := h
    exact .inl ⟨rfl, rfl, rfl, hL.trans hM.symm⟩
  · refine .inr ⟨?_, ?_, ?_⟩
    · rw [Lib.toList_data, Lib.toList_data, beq_eq_false_iff_ne]
      intro e
      rw [hL, hM] at e
      have := layE_cut (p := p) (q := q) (k := a) (m := b) (d := d) (e := f) (x := []) (y := []) (by rw [e])
      exact h ⟨this.1, this.2.1, this.2.2.1⟩
    · rw [Lib.toList_data, Lib.toList_data, Lib.toList_data, Lib.toList_data]
      by_cases h1 : p = q
      · by_cases h2 : a = b
        · refine .inr (.inr ⟨h1, h2, beq_eq_false_iff_ne.2 fun e => h ⟨h1, h2, ba_ext e⟩⟩)
        · exact .inr (.inl ⟨h1, beq_eq_false_iff_ne.2 (by omega)⟩)
      · exact .inl (beq_eq_false_iff_ne.2 fun e => h1 (ba_ext e))
    · by_cases h3 : (M.size : Int) < (L.size : Int)
      · exact .inl h3
      · refine .inr ⟨h3, by omega, ?_⟩
        rw [Lib.toList_data, Lib.toList_data, beq_eq_false_iff_ne]
        intro e
        rw [Lib.extract_data, List.drop_zero, Nat.sub_zero] at e
        have h4 := List.take_append_drop L.size M.data.toList
        rw [e, hL, hM] at h4
        have := layE_cut (p := p) (q := q) (k := a) (m := b) (d := d) (e := f) (y := []) (h4.trans (List.append_nil _).symm)
        exact h ⟨this.1, this.2.1, this.2.2.1⟩
set_option maxRecDepth 10000 in
set_option maxHeartbeats 4000000 in
theorem unlike_few (p q d f : ByteArray) (k m : Int) (h1 : p.size ≤ 600 ∧ d.size ≤ 600) (h2 : q.size ≤ 600 ∧ f.size ≤ 600) (W : World) (hg : EtLaid W) :
    Calls Tryd.prog 8 #[entV p k d, entV q m f] W fun e w' => e = .returned (.bool true) ∧ Below W.heap.size W w' := by
  obtain ⟨V, hV, r0, q0, hb0⟩ := en_two W p q d f k m
  have HB0 := Lib.hid hb0
  have HR0 := Lib.hid r0
  have HQ0 := Lib.hid q0
  have HG := Lib.hid hg
  have HF := Lib.hid (decide_eq_true h1)
  have HF2 := Lib.hid (decide_eq_true h2)
  obtain ⟨L, ev, ce, hlay, hcode, hway⟩ := lay8_any p d k (by unfold maxLen; omega)
  obtain ⟨M, ew, cf, hlay2, hcode2, hway2⟩ := lay8_any q f m (by unfold maxLen; omega)
  have HL1 := Lib.hid hlay
  have HC1 := Lib.hid hcode
  have HL2 := Lib.hid hlay2
  have HC2 := Lib.hid hcode2
  have ways : ((ce != 0) = true) ∨ ((ce != 0) = false ∧ (cf != 0) = true) ∨ ((ce != 0) = false ∧ (cf != 0) = false ∧ ∃ a b : Nat, k = (a : Int) ∧ m = (b : Int) ∧ L = layE p a d ∧ M = layE q b f) := by
    rcases hway with ⟨_, h3⟩ | ⟨_, h3, a, h4, h5⟩
    · exact .inl h3
    · rcases hway2 with ⟨_, h6⟩ | ⟨_, h6, b, h7, h8⟩
      · exact .inr (.inl ⟨h3, h6⟩)
      · exact .inr (.inr ⟨h3, h6, a, b, h4, h7, h5, h8⟩)
  have HWY := Lib.hid ways
  clear hb0 r0 q0 h1 h2 hg hlay hcode hlay2 hcode2 hway hway2 ways
  go_enter Tryd.func8, Tryd.ntmps8
  go_wp2_with fail
  refine (awake8 _).mono ?_
  rintro e w1 ⟨rfl, hb1⟩
  have HB1 := Lib.hid (HB0.out.trans (hb1.mono HB0.out.size))
  have r1 := HR0.out.below hb1
  have HR1 := Lib.hid r1
  have HQ1 := Lib.hid (HQ0.out.below hb1)
  have c0 := r1.c0
  have c1 := r1.c1
  have c2 := r1.c2
  clear hb1 r1
  go_wp2_with fail
  refine (few8 p d k _).mono ?_
  rintro e w2 ⟨rfl, hb2⟩
  rw [HF.out]
  have HB2 := Lib.hid (HB1.out.trans (hb2.mono HB1.out.size))
  have HR2 := Lib.hid (HR1.out.below hb2)
  have q2 := HQ1.out.below hb2
  have HQ2 := Lib.hid q2
  have d0 := q2.c0
  have d1 := q2.c1
  have d2 := q2.c2
  clear hb2 c0 c1 c2 q2
  go_wp2_with fail
  refine (few8 q f m _).mono ?_
  rintro e w3 ⟨rfl, hb3⟩
  rw [HF2.out]
  have HB3 := Lib.hid (HB2.out.trans (hb3.mono HB2.out.size))
  have r3 := HR2.out.below hb3
  have HR3 := Lib.hid r3
  have HQ3 := Lib.hid (HQ2.out.below hb3)
  have c0 := r3.c0
  have c1 := r3.c1
  have c2 := r3.c2
  clear hb3 d0 d1 d2 r3 hV
  go_wp2_with fail
  refine (HL1.out _).mono ?_
  rintro e w4 ⟨rfl, hb4⟩
  have HB4 := Lib.hid (HB3.out.trans (hb4.mono HB3.out.size))
  have HR4 := Lib.hid (HR3.out.below hb4)
  have q4 := HQ3.out.below hb4
  have HQ4 := Lib.hid q4
  have d0 := q4.c0
  have d1 := q4.c1
  have d2 := q4.c2
  clear hb4 q4 c0 c1 c2
  go_wp2_with fail
  refine (HL2.out _).mono ?_
  rintro e w5 ⟨rfl, hb5⟩
  have HB5 := Lib.hid (HB4.out.trans (hb5.mono HB4.out.size))
  have HR5 := Lib.hid (HR4.out.below hb5)
  have HQ5 := Lib.hid (HQ4.out.below hb5)
  clear hb5 d0 d1 d2
  go_wp2_with fail
  refine (HC1.out _ (HG.out.below HG.out.lt HB5.out)).mono ?_
  rintro e w6 ⟨rfl, hb6⟩
  have HB6 := Lib.hid (HB5.out.trans (hb6.mono HB5.out.size))
  have HR6 := Lib.hid (HR5.out.below hb6)
  have HQ6 := Lib.hid (HQ5.out.below hb6)
  clear hb6
  rcases HWY.out with y1 | ⟨y1, y2⟩ | ⟨y1, y2, a, b, rfl, rfl, hL, hM⟩
  · go_wp2
    go_ret
    exact ⟨rfl, HB6.out⟩
  · go_wp2_with fail
    refine (HC2.out _ (HG.out.below HG.out.lt HB6.out)).mono ?_
    rintro e w7 ⟨rfl, hb7⟩
    have HB7 := Lib.hid (HB6.out.trans (hb7.mono HB6.out.size))
    clear hb7
    go_wp2
    go_ret
    exact ⟨rfl, HB7.out⟩
  · have HWW := Lib.hid (unlike_ways hL hM)
    clear hL hM
    go_wp2_with fail
    refine (HC2.out _ (HG.out.below HG.out.lt HB6.out)).mono ?_
    rintro e w7 ⟨rfl, hb7⟩
    have HB7 := Lib.hid (HB6.out.trans (hb7.mono HB6.out.size))
    have r7 := HR6.out.below hb7
    have q7 := HQ6.out.below hb7
    have c0 := r7.c0
    have c1 := r7.c1
    have c2 := r7.c2
    have d0 := q7.c0
    have d1 := q7.c1
    have d2 := q7.c2
    clear hb7 r7 q7
    rcases HWW.out with ⟨rfl, rfl, rfl, rfl⟩ | ⟨g1, g2, g3⟩
    · go_wp2
      go_ret
      exact ⟨by first | rfl | (simp; done), HB7.out⟩
    · rcases g2 with g2 | ⟨rfl, g2⟩ | ⟨rfl, rfl, g2⟩ <;> rcases g3 with g3 | ⟨g3, g4, g5⟩
      all_goals
        go_wp2
        go_ret
        exact ⟨by first | rfl | (simp; done), HB7.out⟩
theorem unlike8_any (p q d f : ByteArray) (k m : Int) (W : World) (hg : EtLaid W) :
    Calls Tryd.prog 8 #[entV p k d, entV q m f] W fun e w' => e = .returned (.bool true) ∧ Below W.heap.size W w' := by
  by_cases h1 : p.size ≤ 600 ∧ d.size ≤ 600
  · by_cases h2 : q.size ≤ 600 ∧ f.size ≤ 600
    · exact unlike_few p q d f k m h1 h2 W hg
    · exact unlike_many p q d f k m (.inr ⟨h1, h2⟩) W
  · exact unlike_many p q d f k m (.inl h1) W
end Go.Proofs.YtdpgdnofiepkoaaDoor
