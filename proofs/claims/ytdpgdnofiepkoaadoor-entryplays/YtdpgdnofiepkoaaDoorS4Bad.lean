/-
  Reads that are refused: code.number panics at bytes that begin with no number, or with one above the bound. Condition: the bytes fit in memory.
-/
import Derived.Test.YtdpgdnofiepkoaaDoorS4Reader
import Derived.WalkLawsBesides
namespace Go.Proofs.YtdpgdnofiepkoaaDoor
open Go.RowKit

/-- The number that digits make. -/
def cv : List UInt8 → Nat
  | [] => 0
  | c :: l => c.toNat % 128 + 128 * cv l
theorem cv_snoc : ∀ (l : List UInt8) (c : UInt8), cv (l ++ [c]) = cv l + c.toNat % 128 * 128 ^ l.length
  | [], c => by simp [cv]
  | d :: l, c => by
    rw [List.cons_append, cv, cv, cv_snoc l c, List.length_cons, Nat.pow_succ, Nat.mul_add, ← Nat.add_assoc]
    congr 1
    rw [Nat.mul_comm 128, Nat.mul_assoc]
theorem cv_lt : ∀ l : List UInt8, cv l < 128 ^ l.length
  | [] => by simp [cv]
  | c :: l => by
    have h := cv_lt l
    rw [cv, List.length_cons, Nat.pow_succ]
    omega
theorem cv_pos : ∀ (l : List UInt8) (c : UInt8), c.toNat < 128 → c.toNat ≠ 0 → 1 ≤ cv (l ++ [c])
  | [], c, h, h0 => by simp [cv]; omega
  | d :: l, c, h, h0 => by
    have := cv_pos l c h h0
    rw [List.cons_append, cv]
    omega
theorem dg_cv : ∀ (l : List UInt8) (c : UInt8), (∀ x ∈ l, 128 ≤ x.toNat) → c.toNat < 128 → (c.toNat ≠ 0 ∨ l = []) → dg (cv (l ++ [c])) = l ++ [c]
  | [], c, _, h, _ => by
    have e : cv ([] ++ [c]) = c.toNat := by simp [cv]; omega
    rw [e, dg_last h]
    simp
  | d :: l, c, hl, h, h0 => by
    have hc : c.toNat ≠ 0 := by
      rcases h0 with h0 | h0
      · exact h0
      · cases h0
    have hd := hl d List.mem_cons_self
    have hd2 : d.toNat < 256 := d.toNat_lt
    have h1 := cv_pos l c h hc
    have ih := dg_cv l c (fun x hx => hl x (List.mem_cons_of_mem _ hx)) h (.inl hc)
    rw [List.cons_append, cv, dg_more (by omega)]
    have e1 : (d.toNat % 128 + 128 * cv (l ++ [c])) % 128 + 128 = d.toNat := by omega
    have e2 : (d.toNat % 128 + 128 * cv (l ++ [c])) / 128 = cv (l ++ [c]) := by omega
    rw [e1, e2, ih]
    simp
/-- Bytes that begin with no number up to most. -/
def Bad (s : ByteArray) (most : Int) : Prop := ∀ n rest, s.data.toList = dg n ++ rest → n ≤ 4611686018427387904 → ¬ (n : Int) ≤ most
/-- What is thrown. -/
abbrev thrown : Ending := .panicked [{ v := .iface 43 (.int .i64 13), recovered := false }]
theorem wrap_lt {e : Nat} (h : e < 9223372036854775808) : wrap64 (e : Int) = (e : Int) := by
  unfold wrap64
  omega
theorem need_false (w : World) : Calls Tryd.prog 53 #[.bool false] w fun e w' => e = thrown ∧ w = w' := by
  go_enter Tryd.func53, Tryd.ntmps53
  go_wp2
  exact ⟨rfl, rfl, rfl⟩

set_option maxRecDepth 10000 in
set_option maxHeartbeats 2000000 in
theorem number_bad (most : Int) (s : ByteArray) (hb : Bad s most) (hz : s.size ≤ maxLen) (w : World) :
    Calls Tryd.prog 50 #[.string s, .int .i64 most] w fun e w' => e = thrown ∧ w = w' := by
  have HBad := Lib.hid hb
  have HZ : Hid (s.size ≤ 9223372036854775807) := by unfold maxLen at hz; exact (by omega : s.size ≤ 9223372036854775807)
  clear hb hz
  rcases Int.lt_or_le 9 (s.size : Int) with hsz | hsz
  all_goals
    go_enter Tryd.func50, Tryd.ntmps50
    go_wp2
    go_loopg [6, 11] 9 (fun g a i wr => ∃ (k acc : Nat), a = .int .i64 (acc : Int) ∧ i = .int .i64 (k : Int) ∧ Hid (k + g = 9 ∧ acc = cv (s.data.toList.take k) ∧ (∀ x ∈ s.data.toList.take k, 128 ≤ x.toNat) ∧ k ≤ s.size ∧ w = wr))
    case atStart => exact ⟨0, 0, rfl, rfl, rfl, rfl, by simp, Nat.zero_le _, rfl⟩
    case round =>
      obtain ⟨k, acc, rfl, rfl, HR⟩ := hrel
      obtain ⟨h1, h2, h3, h4, rfl⟩ := HR.out
      have HG := Lib.hid h1
      by_cases hlt : k < 9 ∧ k < s.size
      · have hk9' : (k : Int) < 9 := by omega
        have hkz : (k : Int) < (s.size : Int) := by omega
        obtain ⟨hk9, hk⟩ := hlt
        obtain ⟨d, hd⟩ : ∃ d, s[k].toNat = d := ⟨_, rfl⟩
        have hd2 : d < 256 := by rw [← hd]; exact s[k].toNat_lt
        have hb : (s[k].toNat : Int) = (d : Int) := by rw [hd]
        have htk : s.data.toList.take (k + 1) = s.data.toList.take k ++ [s[k]] := by rw [List.take_add_one, List.getElem?_eq_getElem (by have := Lib.size_eq s; omega)]; rfl
        obtain ⟨r, hrr⟩ : ∃ r, d % 128 = r := ⟨_, rfl⟩
        obtain ⟨e, hee⟩ : ∃ e, r * 2 ^ (7 * k) = e := ⟨_, rfl⟩
        obtain ⟨a2, haa⟩ : ∃ a2, acc + e = a2 := ⟨_, rfl⟩
        have hlen : (s.data.toList.take k).length = k := by rw [List.length_take]; have := Lib.size_eq s; omega
        have hcv : cv (s.data.toList.take (k + 1)) = a2 := by
          rw [htk, cv_snoc, hlen, ← h2, hd, hrr, ← haa, ← hee, Nat.pow_mul]
        have ha2 : a2 < 9223372036854775808 := by
          have h5 := cv_lt (s.data.toList.take (k + 1))
          rw [hcv, htk, List.length_append, hlen, List.length_singleton] at h5
          have h6 : 128 ^ (k + 1) ≤ 128 ^ 9 := Nat.pow_le_pow_right (by decide) (by omega)
          omega
        have w1 : wrap64 ((r : Int) * 2 ^ (7 * k)) = (e : Int) := by
          have h5 : (r : Int) * 2 ^ (7 * k) = (e : Int) := by rw [← hee]; push_cast; rfl
          rw [h5]
          exact wrap_lt (by omega)
        have w2 : wrap64 ((acc : Int) + (e : Int)) = (a2 : Int) := by
          rw [show (acc : Int) + (e : Int) = (a2 : Int) by omega]
          exact wrap_lt ha2
        have hmod : (d : Int) % 128 = (r : Int) := by omega
        by_cases hge : 128 ≤ d
        · have hge' : (128 : Int) ≤ (d : Int) := by omega
          have HNX : Hid (a2 = cv (s.data.toList.take (k + 1)) ∧ (∀ x ∈ s.data.toList.take (k + 1), 128 ≤ x.toNat) ∧ k + 1 ≤ s.size) := by
            refine ⟨hcv.symm, fun x hx => ?_, hk⟩
            rw [htk] at hx
            rcases List.mem_append.1 hx with hx | hx
            · exact h3 x hx
            · rw [List.mem_singleton.1 hx, hd]; exact hge
          clear h1 h2 h3 h4 HR hcv htk hlen hee haa hrr hd ha2 hge hd2
          go_wp2
          go_roundg (gk - 1)
          case measure => have := HG.out; omega
          case rel => exact ⟨k + 1, a2, congrArg _ w2, by go_num, by have := HG.out; omega, HNX.out.1, HNX.out.2.1, HNX.out.2.2, rfl⟩
        · have hge' : ¬ (128 : Int) ≤ (d : Int) := by omega
          have HD : Hid ((d ≠ 0 ∨ k = 0) → a2 ≤ 4611686018427387904 → ¬ (a2 : Int) ≤ most) := fun h5 h6 => by
            refine HBad.out a2 (s.data.toList.drop (k + 1)) ?_ h6
            have h7 := dg_cv (s.data.toList.take k) s[k] h3 (by rw [hd]; omega) (by
              rcases h5 with h5 | h5
              · exact .inl (by rw [hd]; exact h5)
              · exact .inr (by rw [h5]; rfl))
            rw [← htk, hcv] at h7
            rw [h7, List.take_append_drop]
          clear h1 h2 h3 h4 HR hcv htk hlen hee haa hrr hd hge hd2
          by_cases hz0 : d = 0 ∧ k ≠ 0
          · have hk0 : ((k : Int) == 0) = false := by simp; omega
            have hdz : ((d : Int) != 0) = false := by simp; omega
            clear HD
            go_wp2_with fail
            refine (need_false _).mono ?_
            rintro e w' ⟨rfl, rfl⟩
            go_wp2
            exact ⟨rfl, rfl, rfl⟩
          · have HD2 := Lib.hid (HD.out (by omega))
            clear HD
            have hor : ((d : Int) != 0) = true ∨ (((d : Int) != 0) = false ∧ ((k : Int) == 0) = true) := by
              by_cases h8 : d = 0
              · exact .inr ⟨by simp; omega, by simp; omega⟩
              · exact .inl (by simp; omega)
            clear hz0
            rcases hor with hdz | ⟨hdz, hk0⟩
            all_goals
              go_wp2_with fail
              refine (need_true _).mono ?_
              rintro e w' ⟨rfl, rfl⟩
              by_cases h9 : a2 ≤ 4611686018427387904
              · have h9' : (a2 : Int) ≤ 4611686018427387904 := by omega
                have h10 : ¬ (a2 : Int) ≤ most := by have := HD2.out h9; omega
                clear HD2
                go_wp2_with fail
                rw [show decide ((a2 : Int) ≤ most) = false from decide_eq_false (by omega)]
                refine (need_false _).mono ?_
                rintro e w' ⟨rfl, rfl⟩
                go_wp2
                exact ⟨rfl, rfl, rfl⟩
              · have h9' : ¬ (a2 : Int) ≤ 4611686018427387904 := by omega
                clear HD2
                go_wp2_with fail
                refine (need_false _).mono ?_
                rintro e w' ⟨rfl, rfl⟩
                go_wp2
                exact ⟨rfl, rfl, rfl⟩
      · have hnl : ¬ ((k : Int) < 9 ∧ (k : Int) < (s.size : Int)) := by omega
        have hnl2 : ¬ (k : Int) < 9 ∨ ¬ (k : Int) < (s.size : Int) := by omega
        first
          | (have hx : ¬ (k : Int) < 9 := by omega
             clear h1 h2 h3 h4 HR hlt hnl hnl2
             go_wp2
             exact ⟨rfl, rfl, rfl⟩)
          | (have hx : ¬ (k : Int) < (s.size : Int) := by omega
             clear h1 h2 h3 h4 HR hlt hnl hnl2
             go_wp2
             exact ⟨rfl, rfl, rfl⟩)

theorem num1_bad (most : Int) (s : ByteArray) (hb : Bad s most) (hz : s.size ≤ maxLen) (q : Nat) (w : World) (hq : w.cell? ⟨q, 0, none⟩ = some (.int .i64 most)) :
    Calls Tryd.prog 49 #[.string s, .pointer (some ⟨q, 0, none⟩)] w fun e w' => e = thrown ∧ w = w' := by
  have H := Lib.hid (number_bad most s hb hz w)
  clear hb hz
  go_enter Tryd.func49, Tryd.ntmps49
  go_wp2_with fail
  refine H.out.mono ?_
  rintro e w1 ⟨rfl, rfl⟩
  go_wp2
  exact ⟨rfl, rfl, rfl⟩
end Go.Proofs.YtdpgdnofiepkoaaDoor
