/-
  The laws' example (awake), and PathOrder walked: for every three texts it returns true and changes nothing that was there. Condition: the texts' sizes fit an int.
-/
import Derived.Test.YtpbkjijdilkkcaaDoorS3Join
import Derived.Laws.Cover1
namespace Go.Proofs.YtpbkjijdilkkcaaDoor
open Go.RowKit

theorem of_data {s : ByteArray} {l : List UInt8} (h : s.data.toList = l) : s = ⟨l.toArray⟩ := by rw [← h, Lib.mk_data]

theorem less_prefix : ∀ {q p : List UInt8}, q <+: p → Op.bytesLess p q = false
  | [], p, _ => by cases p <;> rfl
  | c :: q, [], h => by simp at h
  | c :: q, d :: p, h => by
    obtain ⟨rfl, h2⟩ := List.cons_prefix_cons.1 h
    have := less_prefix h2
    simp [Op.bytesLess, this]

set_option maxHeartbeats 1000000 in
theorem awake_any (w : World) : Calls Tryd.prog 8 #[] w fun e w' => e = .returned (.bool true) ∧ Below w.heap.size w w' := by
  have H := Lib.hid (parent_good ⟨#[47, 97, 47, 98]⟩ [[97]] [98] (by decide) (by decide) (by decide) (by decide) w)
  go_enter Tryd.func8, Tryd.ntmps8
  go_wp2_with fail
  refine H.out.mono ?_
  rintro e w1 ⟨d, n, rfl, hd, hn, hb⟩
  obtain rfl := of_data hd
  obtain rfl := of_data hn
  have HB := Lib.hid hb
  clear hb hd hn
  rw [show pth [[97]] = [47, 97] by decide]
  go_wp2_with fail
  refine (code_nil _).mono ?_
  rintro e w2 ⟨rfl, rfl⟩
  go_wp2
  go_ret
  exact ⟨rfl, HB.out⟩

set_option maxHeartbeats 2000000 in
theorem order_long (p q r : ByteArray) (hl : 200 < p.size ∨ 200 < q.size ∨ 200 < r.size) (w : World) :
    Calls Tryd.prog 7 #[.string p, .string q, .string r] w fun e w' => e = .returned (.bool true) ∧ Below w.heap.size w w' := by
  have HL := Lib.hid hl
  clear hl
  go_enter Tryd.func7, Tryd.ntmps7
  go_wp2_with fail
  refine (awake_any _).mono ?_
  rintro e w1 ⟨rfl, hb⟩
  have HB1 := Lib.hid hb
  clear hb
  by_cases h1 : (200 : Int) < (p.size : Int)
  · go_wp2_with fail
    refine (awake_any _).mono ?_
    rintro e w2 ⟨rfl, hb⟩
    have HB2 := Lib.hid (HB1.out.trans (hb.mono HB1.out.size))
    clear hb
    go_wp2
    go_ret
    exact ⟨rfl, HB2.out⟩
  · by_cases h2 : (200 : Int) < (q.size : Int)
    · go_wp2_with fail
      refine (awake_any _).mono ?_
      rintro e w2 ⟨rfl, hb⟩
      have HB2 := Lib.hid (HB1.out.trans (hb.mono HB1.out.size))
      clear hb
      go_wp2
      go_ret
      exact ⟨rfl, HB2.out⟩
    · have h3 : (200 : Int) < (r.size : Int) := by have := HL.out; omega
      go_wp2_with fail
      refine (awake_any _).mono ?_
      rintro e w2 ⟨rfl, hb⟩
      have HB2 := Lib.hid (HB1.out.trans (hb.mono HB1.out.size))
      clear hb
      go_wp2
      go_ret
      exact ⟨rfl, HB2.out⟩

set_option maxHeartbeats 4000000 in
theorem order_short (p q r : ByteArray) (h1 : p.size ≤ 200) (h2 : q.size ≤ 200) (h3 : r.size ≤ 200) (w : World) :
    Calls Tryd.prog 7 #[.string p, .string q, .string r] w fun e w' => e = .returned (.bool true) ∧ Below w.heap.size w w' := by
  have l1 : ¬ (200 : Int) < (p.size : Int) := by omega
  have l2 : ¬ (200 : Int) < (q.size : Int) := by omega
  have l3 : ¬ (200 : Int) < (r.size : Int) := by omega
  have HU : ∀ a b : ByteArray, (a = p ∨ a = q ∨ a = r) → (b = p ∨ b = q ∨ b = r) → ∀ w : World, Calls Tryd.prog 14 #[.string a, .string b] w fun e w' => e = .returned (.bool (und a.data.toList b.data.toList)) ∧ Below w.heap.size w w' := fun a b ha hb w =>
    under_any a b (by rcases ha with rfl | rfl | rfl <;> omega) (by rcases hb with rfl | rfl | rfl <;> omega) w
  have HU' := Lib.hid HU
  clear HU h1 h2 h3
  go_enter Tryd.func7, Tryd.ntmps7
  go_wp2_with fail
  refine (awake_any _).mono ?_
  rintro e w1 ⟨rfl, hb⟩
  have HB1 := Lib.hid hb
  clear hb
  go_wp2_with fail
  refine (HU'.out p q (by simp) (by simp) w1).mono ?_
  rintro e w2 ⟨rfl, hb⟩
  have HB2 := Lib.hid (HB1.out.trans (hb.mono HB1.out.size))
  clear hb
  cases hpq : und p.data.toList q.data.toList with
  | false =>
    go_wp2_with fail
    refine (HU'.out p q (by simp) (by simp) w2).mono ?_
    rintro e w3 ⟨rfl, hb⟩
    have HB3 := Lib.hid (HB2.out.trans (hb.mono HB2.out.size))
    clear hb
    rw [hpq]
    go_wp2
    go_ret
    exact ⟨rfl, HB3.out⟩
  | true =>
    obtain ⟨hpre, hlt⟩ := und_longer hpq
    have hless : Op.bytesLess p.toList q.toList = false := by rw [Lib.toList_data, Lib.toList_data]; exact less_prefix hpre
    have hneq : (p.toList == q.toList) = false := by
      rw [Lib.toList_data, Lib.toList_data, beq_eq_false_iff_ne]
      intro e
      rw [e] at hlt
      omega
    have hsz : ¬ (p.size : Int) ≤ (q.size : Int) := by
      rw [Lib.size_eq, Lib.size_eq]
      omega
    clear hpre hlt
    go_wp2_with fail
    refine (HU'.out p q (by simp) (by simp) w2).mono ?_
    rintro e w3 ⟨rfl, hb⟩
    have HB3 := Lib.hid (HB2.out.trans (hb.mono HB2.out.size))
    clear hb
    rw [hpq]
    go_wp2_with fail
    refine (HU'.out p r (by simp) (by simp) w3).mono ?_
    rintro e w4 ⟨rfl, hb⟩
    have HB4 := Lib.hid (HB3.out.trans (hb.mono HB3.out.size))
    clear hb
    cases hpr : und p.data.toList r.data.toList with
    | false =>
      go_wp2
      go_ret
      exact ⟨rfl, HB4.out⟩
    | true =>
      have htwo := und_two hpq hpr
      cases hqr : (q.toList == r.toList) with
      | true =>
        go_wp2
        go_ret
        exact ⟨rfl, HB4.out⟩
      | false =>
        have hne : q.data.toList ≠ r.data.toList := by
          rw [Lib.toList_data, Lib.toList_data, beq_eq_false_iff_ne] at hqr
          exact hqr
        have HT := Lib.hid (htwo.resolve_left hne)
        clear htwo hne
        go_wp2_with fail
        refine (HU'.out q r (by simp) (by simp) w4).mono ?_
        rintro e w5 ⟨rfl, hb⟩
        have HB5 := Lib.hid (HB4.out.trans (hb.mono HB4.out.size))
        clear hb
        cases h5 : und q.data.toList r.data.toList with
        | true =>
          go_wp2
          go_ret
          exact ⟨rfl, HB5.out⟩
        | false =>
          have h6 : und r.data.toList q.data.toList = true := HT.out.resolve_left (by rw [h5]; simp)
          go_wp2_with fail
          refine (HU'.out r q (by simp) (by simp) w5).mono ?_
          rintro e w6 ⟨rfl, hb⟩
          have HB6 := Lib.hid (HB5.out.trans (hb.mono HB5.out.size))
          clear hb
          rw [h6]
          go_wp2
          go_ret
          exact ⟨rfl, HB6.out⟩

theorem order_any (p q r : ByteArray) (w : World) : Calls Tryd.prog 7 #[.string p, .string q, .string r] w fun e w' => e = .returned (.bool true) ∧ Below w.heap.size w w' := by
  by_cases h : 200 < p.size ∨ 200 < q.size ∨ 200 < r.size
  · exact order_long p q r h w
  · exact order_short p q r (by omega) (by omega) (by omega) w
end Go.Proofs.YtpbkjijdilkkcaaDoor
