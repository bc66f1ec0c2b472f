/-
  Contracts of path.Deep and Under for every text. Condition: a text's size fits an int.
-/
import Derived.Test.YtflomllfehoedaaDoorS3Deep
import Derived.StillTailTactics
namespace Go.Proofs.YtflomllfehoedaaDoor
open Go.RowKit

set_option maxHeartbeats 1000000 in
theorem deep_any (p : ByteArray) (hz : p.size ≤ 9223372036854775807) (w : World) :
    Calls Tryd.prog 25 #[.string p] w fun e w' => e = .returned (.int .i64 (dp p.data.toList)) ∧ Below w.heap.size w w' := by
  by_cases hh : p.data.toList.head? = some 47
  · exact deep_slash p hh hz w
  · have hpre : ([47] : List UInt8).isPrefixOf p.data.toList = false := by
      cases h : p.data.toList with
      | nil => rfl
      | cons c r =>
        rw [h] at hh
        have : (47 == c) = false := by
          rw [beq_eq_false_iff_ne]
          exact fun e => hh (by rw [← e]; rfl)
        simp [List.isPrefixOf, this]
    have hd : dp p.data.toList = -1 := dp_neg fun h => hh h.1
    have HD := Lib.hid hd
    have HP := Lib.hid hpre
    clear hd hh hz hpre
    go_enter Tryd.func25, Tryd.ntmps25
    go_wp2_with fail
    refine (hasPrefix_any p ⟨#[47]⟩ _).mono ?_
    rintro e w' ⟨rfl, rfl⟩
    rw [show ([47] : List UInt8).isPrefixOf p.data.toList = false from HP.out]
    go_wp2
    refine bodyPost_ret_by (v := .int .i64 (-1)) (by simp [results, Tryd.f25, go_sem]) rfl ?_
    exact ⟨by rw [HD.out], (Below.refl _ w).alloc (Nat.le_refl _) _⟩

theorem eq_slash (p : ByteArray) : (p.toList == [47]) = decide (p.data.toList = [47]) := by
  rw [Lib.toList_data, Bool.eq_iff_iff]
  simp
theorem ba_append (a b : ByteArray) : (a ++ b).data.toList = a.data.toList ++ b.data.toList := by
  rw [ByteArray.data_append]
  simp

set_option maxHeartbeats 2000000 in
theorem under_any (p q : ByteArray) (hp : p.size ≤ 9223372036854775807) (hq : q.size ≤ 9223372036854775000) (w : World) :
    Calls Tryd.prog 22 #[.string p, .string q] w fun e w' => e = .returned (.bool (und p.data.toList q.data.toList)) ∧ Below w.heap.size w w' := by
  have HP := Lib.hid hp
  have HQ := Lib.hid hq
  have hsum : ¬ 9223372036854775807 < q.size + 1 := by omega
  clear hp hq
  by_cases h1 : isP p.data.toList
  · have d1 : ¬ dp p.data.toList < 0 := fun h => dp_lt.1 h h1
    obtain ⟨m1, hm1⟩ : ∃ m, dp p.data.toList = m := ⟨_, rfl⟩
    rw [hm1] at d1
    have HM1 := Lib.hid hm1
    clear hm1
    by_cases h2 : isP q.data.toList
    · have hu := und_eq h1 h2
      have d2 : ¬ dp q.data.toList < 0 := fun h => dp_lt.1 h h2
      obtain ⟨m2, hm2⟩ : ∃ m, dp q.data.toList = m := ⟨_, rfl⟩
      rw [hm2] at d2
      have HM2 := Lib.hid hm2
      clear hm2 h1 h2
      cases hs : (q.toList == [47]) with
      | true =>
        rw [eq_slash, decide_eq_true_iff] at hs
        rw [if_pos hs] at hu
        have hs' : (q.toList == [47]) = true := by rw [eq_slash]; simpa using hs
        have HU := Lib.hid hu
        clear hu hs
        go_enter Tryd.func22, Tryd.ntmps22
        go_wp2_with fail
        refine (deep_any p HP.out _).mono ?_
        rintro e w1 ⟨rfl, hb⟩
        rw [HM1.out]
        have HB := Lib.hid hb
        clear hb
        go_wp2_with fail
        refine (deep_any q (Nat.le_trans HQ.out (by omega)) _).mono ?_
        rintro e w2 ⟨rfl, hb⟩
        rw [HM2.out]
        have HB2 := Lib.hid (HB.out.trans (hb.mono HB.out.size))
        clear hb HB
        go_wp2
        go_ret
        exact ⟨by rw [HU.out]; simp [eq_slash], HB2.out⟩
      | false =>
        rw [eq_slash, decide_eq_false_iff_not] at hs
        rw [if_neg hs] at hu
        have hs' : (q.toList == [47]) = false := by rw [eq_slash]; simpa using hs
        have HU := Lib.hid hu
        clear hu hs
        go_enter Tryd.func22, Tryd.ntmps22
        go_wp2_with fail
        refine (deep_any p HP.out _).mono ?_
        rintro e w1 ⟨rfl, hb⟩
        rw [HM1.out]
        have HB := Lib.hid hb
        clear hb
        go_wp2_with fail
        refine (deep_any q (Nat.le_trans HQ.out (by omega)) _).mono ?_
        rintro e w2 ⟨rfl, hb⟩
        rw [HM2.out]
        have HB2 := Lib.hid (HB.out.trans (hb.mono HB.out.size))
        clear hb HB
        go_wp2_with fail
        refine (hasPrefix_any p _ _).mono ?_
        rintro e w3 ⟨rfl, rfl⟩
        rw [show (q ++ ⟨#[47]⟩ : ByteArray).data.toList = q.data.toList ++ [47] from ba_append _ _, ← HU.out]
        go_wp2
        go_ret
        exact ⟨rfl, HB2.out⟩
    · have d2 : dp q.data.toList < 0 := dp_lt.2 h2
      have hu := und_neg (p := p.data.toList) (.inr h2)
      obtain ⟨m2, hm2⟩ : ∃ m, dp q.data.toList = m := ⟨_, rfl⟩
      rw [hm2] at d2
      have HM2 := Lib.hid hm2
      have HU := Lib.hid hu
      clear hm2 h1 h2 hu
      go_enter Tryd.func22, Tryd.ntmps22
      go_wp2_with fail
      refine (deep_any p HP.out _).mono ?_
      rintro e w1 ⟨rfl, hb⟩
      rw [HM1.out]
      have HB := Lib.hid hb
      clear hb
      go_wp2_with fail
      refine (deep_any q (Nat.le_trans HQ.out (by omega)) _).mono ?_
      rintro e w2 ⟨rfl, hb⟩
      rw [HM2.out]
      have HB2 := Lib.hid (HB.out.trans (hb.mono HB.out.size))
      clear hb HB
      go_wp2
      go_ret
      exact ⟨by rw [HU.out] <;> rfl, HB2.out⟩
  · have d1 : dp p.data.toList < 0 := dp_lt.2 h1
    have hu := und_neg (q := q.data.toList) (.inl h1)
    obtain ⟨m1, hm1⟩ : ∃ m, dp p.data.toList = m := ⟨_, rfl⟩
    rw [hm1] at d1
    have HM1 := Lib.hid hm1
    have HU := Lib.hid hu
    clear hm1 h1 hu
    go_enter Tryd.func22, Tryd.ntmps22
    go_wp2_with fail
    refine (deep_any p HP.out _).mono ?_
    rintro e w1 ⟨rfl, hb⟩
    rw [HM1.out]
    have HB := Lib.hid hb
    clear hb
    go_wp2
    go_ret
    exact ⟨by rw [HU.out] <;> rfl, HB.out⟩
end Go.Proofs.YtflomllfehoedaaDoor
