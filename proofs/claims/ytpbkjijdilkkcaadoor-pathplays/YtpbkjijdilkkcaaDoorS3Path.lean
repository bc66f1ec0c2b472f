/-
  Contracts of path.Deep, Under, Parent, Split for every text. Conditions: a text's size fits an int; for errors, what fail.Code asks.
-/
import Derived.Test.YtpbkjijdilkkcaaDoorS3Collect
import Derived.Test.YtpbkjijdilkkcaaDoorFail
import Derived.StillTailTactics
namespace Go.Proofs.YtpbkjijdilkkcaaDoor
open Go.RowKit

set_option maxHeartbeats 1000000 in
theorem deep_any (p : ByteArray) (hz : p.size ≤ 9223372036854775807) (w : World) :
    Calls Tryd.prog 13 #[.string p] w fun e w' => e = .returned (.int .i64 (dp p.data.toList)) ∧ Below w.heap.size w w' := by
  by_cases hh : p.data.toList.head? = some 47
  · exact deep_slash p hh hz w
  · have hpre : ([47] : List UInt8).isPrefixOf p.data.toList = false := by
      cases h : p.data.toList with
      | nil => rfl
      | cons c r =>
        rw [h] at hh
        have : (47 == c) = false := by
          rw [beq_eq_false_iff_ne]
          exact fun e => hh (by rw [← e]; rfl)
        simp [List.isPrefixOf, this]
    have hd : dp p.data.toList = -1 := dp_neg fun h => hh h.1
    have HD := Lib.hid hd
    have HP := Lib.hid hpre
    clear hd hh hz hpre
    go_enter Tryd.func13, Tryd.ntmps13
    go_wp2_with fail
    refine (hasPrefix_any p ⟨#[47]⟩ _).mono ?_
    rintro e w' ⟨rfl, rfl⟩
    rw [show ([47] : List UInt8).isPrefixOf p.data.toList = false from HP.out]
    go_wp2
    refine bodyPost_ret_by (v := .int .i64 (-1)) (by simp [results, Tryd.f13, go_sem]) rfl ?_
    exact ⟨by rw [HD.out], (Below.refl _ w).alloc (Nat.le_refl _) _⟩

theorem eq_slash (p : ByteArray) : (p.toList == [47]) = decide (p.data.toList = [47]) := by
  rw [Lib.toList_data, Bool.eq_iff_iff]
  simp
theorem bs_append (a b : ByteArray) : (a ++ b).data.toList = a.data.toList ++ b.data.toList := by
  rw [ByteArray.data_append]
  simp

set_option maxHeartbeats 2000000 in
theorem under_any (p q : ByteArray) (hp : p.size ≤ 9223372036854775807) (hq : q.size ≤ 9223372036854775000) (w : World) :
    Calls Tryd.prog 14 #[.string p, .string q] w fun e w' => e = .returned (.bool (und p.data.toList q.data.toList)) ∧ Below w.heap.size w w' := by
  have HP := Lib.hid hp
  have HQ := Lib.hid hq
  have hsum : ¬ 9223372036854775807 < q.size + 1 := by omega
  clear hp hq
  by_cases h1 : isP p.data.toList
  · have d1 : ¬ dp p.data.toList < 0 := fun h => dp_lt.1 h h1
    obtain ⟨m1, hm1⟩ : ∃ m, dp p.data.toList = m := ⟨_, rfl⟩
    rw [hm1] at d1
    have HM1 := Lib.hid hm1
    clear hm1
    by_cases h2 : isP q.data.toList
    · have hu := und_eq h1 h2
      have d2 : ¬ dp q.data.toList < 0 := fun h => dp_lt.1 h h2
      obtain ⟨m2, hm2⟩ : ∃ m, dp q.data.toList = m := ⟨_, rfl⟩
      rw [hm2] at d2
      have HM2 := Lib.hid hm2
      clear hm2 h1 h2
      cases hs : (q.toList == [47]) with
      | true =>
        rw [eq_slash, decide_eq_true_iff] at hs
        rw [if_pos hs] at hu
        have hs' : (q.toList == [47]) = true := by rw [eq_slash]; simpa using hs
        have HU := Lib.hid hu
        clear hu hs
        go_enter Tryd.func14, Tryd.ntmps14
        go_wp2_with fail
        refine (deep_any p HP.out _).mono ?_
        rintro e w1 ⟨rfl, hb⟩
        rw [HM1.out]
        have HB := Lib.hid hb
        clear hb
        go_wp2_with fail
        refine (deep_any q (Nat.le_trans HQ.out (by omega)) _).mono ?_
        rintro e w2 ⟨rfl, hb⟩
        rw [HM2.out]
        have HB2 := Lib.hid (HB.out.trans (hb.mono HB.out.size))
        clear hb HB
        go_wp2
        go_ret
        exact ⟨by rw [HU.out]; simp [eq_slash], HB2.out⟩
      | false =>
        rw [eq_slash, decide_eq_false_iff_not] at hs
        rw [if_neg hs] at hu
        have hs' : (q.toList == [47]) = false := by rw [eq_slash]; simpa using hs
        have HU := Lib.hid hu
        clear hu hs
        go_enter Tryd.func14, Tryd.ntmps14
        go_wp2_with fail
        refine (deep_any p HP.out _).mono ?_
        rintro e w1 ⟨rfl, hb⟩
        rw [HM1.out]
        have HB := Lib.hid hb
        clear hb
        go_wp2_with fail
        refine (deep_any q (Nat.le_trans HQ.out (by omega)) _).mono ?_
        rintro e w2 ⟨rfl, hb⟩
        rw [HM2.out]
        have HB2 := Lib.hid (HB.out.trans (hb.mono HB.out.size))
        clear hb HB
        go_wp2_with fail
        refine (hasPrefix_any p _ _).mono ?_
        rintro e w3 ⟨rfl, rfl⟩
        rw [show (q ++ ⟨#[47]⟩ : ByteArray).data.toList = q.data.toList ++ [47] from bs_append _ _, ← HU.out]
        go_wp2
        go_ret
        exact ⟨rfl, HB2.out⟩
    · have d2 : dp q.data.toList < 0 := dp_lt.2 h2
      have hu := und_neg (p := p.data.toList) (.inr h2)
      obtain ⟨m2, hm2⟩ : ∃ m, dp q.data.toList = m := ⟨_, rfl⟩
      rw [hm2] at d2
      have HM2 := Lib.hid hm2
      have HU := Lib.hid hu
      clear hm2 h1 h2 hu
      go_enter Tryd.func14, Tryd.ntmps14
      go_wp2_with fail
      refine (deep_any p HP.out _).mono ?_
      rintro e w1 ⟨rfl, hb⟩
      rw [HM1.out]
      have HB := Lib.hid hb
      clear hb
      go_wp2_with fail
      refine (deep_any q (Nat.le_trans HQ.out (by omega)) _).mono ?_
      rintro e w2 ⟨rfl, hb⟩
      rw [HM2.out]
      have HB2 := Lib.hid (HB.out.trans (hb.mono HB.out.size))
      clear hb HB
      go_wp2
      go_ret
      exact ⟨by rw [HU.out] <;> rfl, HB2.out⟩
  · have d1 : dp p.data.toList < 0 := dp_lt.2 h1
    have hu := und_neg (q := q.data.toList) (.inl h1)
    obtain ⟨m1, hm1⟩ : ∃ m, dp p.data.toList = m := ⟨_, rfl⟩
    rw [hm1] at d1
    have HM1 := Lib.hid hm1
    have HU := Lib.hid hu
    clear hm1 h1 hu
    go_enter Tryd.func14, Tryd.ntmps14
    go_wp2_with fail
    refine (deep_any p HP.out _).mono ?_
    rintro e w1 ⟨rfl, hb⟩
    rw [HM1.out]
    have HB := Lib.hid hb
    clear hb
    go_wp2
    go_ret
    exact ⟨by rw [HU.out] <;> rfl, HB.out⟩

/-- an error of the number n, in memory -/
def IsErr (w : World) (n : Int) (v : Value) : Prop := ∃ l, Chain w n l v

set_option maxHeartbeats 2000000 in
theorem parent_bad (p : ByteArray) (hz : p.size ≤ 9223372036854775807) (h : ¬ isP p.data.toList) (w : World) :
    Calls Tryd.prog 12 #[.string p] w fun e w' => ∃ er, e = .returned (.tuple #[.string ⟨#[]⟩, .string ⟨#[]⟩, er]) ∧ IsErr w' 2 er ∧ Below w.heap.size w w' := by
  have d1 : dp p.data.toList < 0 := dp_lt.2 h
  obtain ⟨m1, hm1⟩ : ∃ m, dp p.data.toList = m := ⟨_, rfl⟩
  rw [hm1] at d1
  have HM1 := Lib.hid hm1
  have HZ := Lib.hid hz
  clear hm1 h hz
  go_enter Tryd.func12, Tryd.ntmps12
  go_wp2_with fail
  refine (deep_any p HZ.out _).mono ?_
  rintro e w1 ⟨rfl, hb⟩
  rw [HM1.out]
  have HB := Lib.hid hb
  clear hb
  go_wp2_with fail
  refine (at_iface _ p 42 (.int .i64 2) w1).mono ?_
  rintro e w2 ⟨rfl, hw⟩
  have HC := Lib.hid (chain_at (w := w1) (n := 2) (l := []) (u := 42) (y := .int .i64 2) rfl ⟨#[112, 97, 114, 101, 110, 116]⟩ p)
  have HW := Lib.hid hw
  clear hw
  go_wp2
  go_ret3
  exact ⟨_, rfl, ⟨_, HW.out ▸ HC.out⟩, HW.out ▸ HB.out.alloc HB.out.size _⟩

set_option maxHeartbeats 2000000 in
theorem parent_root (w : World) :
    Calls Tryd.prog 12 #[.string ⟨#[47]⟩] w fun e w' => ∃ er, e = .returned (.tuple #[.string ⟨#[]⟩, .string ⟨#[]⟩, er]) ∧ IsErr w' 1 er ∧ Below w.heap.size w w' := by
  go_enter Tryd.func12, Tryd.ntmps12
  go_wp2_with fail
  refine (deep_any ⟨#[47]⟩ (by decide) _).mono ?_
  rintro e w1 ⟨rfl, hb⟩
  rw [show dp (⟨#[47]⟩ : ByteArray).data.toList = 0 by decide]
  have HB := Lib.hid hb
  clear hb
  go_wp2_with fail
  refine (at_iface _ ⟨#[47]⟩ 42 (.int .i64 1) w1).mono ?_
  rintro e w2 ⟨rfl, hw⟩
  have HC := Lib.hid (chain_at (w := w1) (n := 1) (l := []) (u := 42) (y := .int .i64 1) rfl ⟨#[112, 97, 114, 101, 110, 116]⟩ ⟨#[47]⟩)
  have HW := Lib.hid hw
  clear hw
  go_wp2
  go_ret3
  exact ⟨_, rfl, ⟨_, HW.out ▸ HC.out⟩, HW.out ▸ HB.out.alloc HB.out.size _⟩
end Go.Proofs.YtpbkjijdilkkcaaDoor
