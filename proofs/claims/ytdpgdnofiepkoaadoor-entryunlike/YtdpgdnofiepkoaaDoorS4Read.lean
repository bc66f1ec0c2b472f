/-
  The contracts of package code's need and number, where what is asked for lies there: what each answers; what was in memory stays. Condition: the text begins with a number's bytes, the number is at most 2^62 and at most the bound.
-/
import Derived.Test.YtdpgdnofiepkoaaDoorS4Num
import Derived.Lib.Strings
import Derived.BigQuiet
namespace Go.Proofs.YtdpgdnofiepkoaaDoor
open Go.RowKit

set_option maxHeartbeats 1000000 in
theorem need_true (w : World) : Calls Tryd.prog 53 #[.bool true] w fun e w' => e = .returned (.tuple #[]) ∧ w = w' := by
  go_enter Tryd.func53, Tryd.ntmps53
  go_wp2
  go_end0
  exact ⟨rfl, rfl⟩

theorem drop_at (s : ByteArray) (k : Nat) (c : UInt8) (l : List UInt8) (h : s.data.toList.drop k = c :: l) : ∃ hk : k < s.size, s[k] = c ∧ s.data.toList.drop (k + 1) = l := by
  have hk : k < s.data.toList.length := by
    rcases Nat.lt_or_ge k s.data.toList.length with h' | h'
    · exact h'
    · rw [List.drop_eq_nil_of_le h'] at h; cases h
  rw [List.drop_eq_getElem_cons hk] at h
  injection h with h1 h2
  exact ⟨by simpa using hk, h1, h2⟩
theorem pow_step (n k : Nat) : n % 128 ^ k + n / 128 ^ k % 128 * 128 ^ k = n % 128 ^ (k + 1) := by
  rw [Nat.pow_succ, Nat.mod_mul, Nat.mul_comm]

theorem wrap_one {e n : Nat} (h : e ≤ n) (hn : n ≤ 4611686018427387904) : wrap64 (e : Int) = (e : Int) := by
  unfold wrap64
  omega
theorem wrap_two {a e c : Nat} (h : a + e = c) (hc : c ≤ 4611686018427387904) : wrap64 ((a : Int) + (e : Int)) = (c : Int) := by
  unfold wrap64
  omega
theorem below_drewN {B : Nat} {a w : World} (h : Below B a w) (q : Nat) : Below B a (w.drewN q) := ⟨h.os, h.tape, h.output, h.size, h.block⟩

set_option maxRecDepth 10000 in
set_option maxHeartbeats 2000000 in
theorem number_good (n : Nat) (most : Int) (s : ByteArray) (rest : List UInt8) (hs : s.data.toList = dg n ++ rest) (hz : s.size ≤ maxLen) (hn : n ≤ 4611686018427387904) (hm : (n : Int) ≤ most) (w : World) :
    Calls Tryd.prog 50 #[.string s, .int .i64 most] w fun e w' => e = .returned (.tuple #[.int .i64 (n : Int), .string (s.extract (dg n).length s.size)]) ∧ Below w.heap.size w w' := by
  have HS := Lib.hid hs
  have HN := Lib.hid hn
  have HM := Lib.hid hm
  have HZ : Hid (s.size ≤ 9223372036854775807) := by unfold maxLen at hz; exact (by omega : s.size ≤ 9223372036854775807)
  clear hs hn hm hz
  rcases Int.lt_or_le 9 (s.size : Int) with hsz | hsz
  all_goals
    go_enter Tryd.func50, Tryd.ntmps50
    go_wp2
    go_loopg [6, 11] 9 (fun g a i wr => ∃ (k acc : Nat), a = .int .i64 (acc : Int) ∧ i = .int .i64 (k : Int) ∧ Hid (k + g = 9 ∧ acc = n % 128 ^ k ∧ s.data.toList.drop k = dg (n / 128 ^ k) ++ rest ∧ (k = 0 ∨ 128 ^ k ≤ n) ∧ w = wr))
    case atStart => exact ⟨0, 0, rfl, rfl, rfl, by simp [Nat.mod_one], by simpa using HS.out, .inl rfl, rfl⟩
    case round =>
      obtain ⟨k, acc, rfl, rfl, HR⟩ := hrel
      obtain ⟨h1, h2, h3, h4, rfl⟩ := HR.out
      have hk9 : k < 9 := by
        rcases h4 with h4 | h4
        · omega
        · rcases Nat.lt_or_ge k 9 with h5 | h5
          · exact h5
          · have h6 : 128 ^ 9 ≤ 128 ^ k := Nat.pow_le_pow_right (by decide) h5
            have := HN.out
            omega
      have hk9' : (k : Int) < 9 := by omega
      have HA := Lib.hid h2
      have HG := Lib.hid h1
      have HK0 := Lib.hid h4
      clear h1 h2 h4 HR
      by_cases hlt : n / 128 ^ k < 128
      · rw [dg_last hlt] at h3
        obtain ⟨hk, hc, hd⟩ := drop_at s k _ _ h3
        have hkz : (k : Int) < (s.size : Int) := by omega
        obtain ⟨d, hdd⟩ : ∃ d, n / 128 ^ k = d := ⟨_, rfl⟩
        obtain ⟨e, hee⟩ : ∃ e, d * 2 ^ (7 * k) = e := ⟨_, rfl⟩
        rw [hdd] at hlt hc
        have hsum : acc + e = n := by
          have h5 := Nat.div_add_mod' n (128 ^ k)
          rw [hdd, show 128 ^ k = 2 ^ (7 * k) by rw [Nat.pow_mul], hee] at h5
          rw [HA.out, show 128 ^ k = 2 ^ (7 * k) by rw [Nat.pow_mul]]
          omega
        have hb : (s[k].toNat : Int) = (d : Int) := by rw [hc, ofNat_toNat (by omega)]
        have hmod : (d : Int) % 128 = (d : Int) := by omega
        have hge : ¬ (128 : Int) ≤ (d : Int) := by omega
        have hn1 : (n : Int) ≤ 4611686018427387904 := Int.ofNat_le.2 HN.out
        have w1 : wrap64 ((d : Int) * 2 ^ (7 * k)) = (e : Int) := by
          have h5 : (d : Int) * 2 ^ (7 * k) = (e : Int) := by rw [← hee]; push_cast; rfl
          rw [h5]
          exact wrap_one (by rw [← hsum]; exact Nat.le_add_left _ _) HN.out
        have w2 : wrap64 ((acc : Int) + (e : Int)) = (n : Int) := by
          exact wrap_two hsum HN.out
        have hn2 : (n : Int) ≤ most := HM.out
        have HE : Hid ((dg n).length = k + 1) := by
          have h5 := congrArg List.length hd
          have h6 := congrArg List.length HS.out
          have h7 := Lib.size_eq s
          simp at h5 h6
          exact (by omega : (dg n).length = k + 1)
        have hd0 : d = 0 → k = 0 := fun h => by
          rcases HK0.out with h5 | h5
          · exact h5
          · have : 1 ≤ n / 128 ^ k := (Nat.one_le_div_iff (Nat.pow_pos (by decide))).2 h5
            omega
        clear hd h3 hlt hc hee hsum hdd
        by_cases hz0 : d = 0
        · have hk0 : ((k : Int) == 0) = true := by have := hd0 hz0; simp; omega
          have hdz : ((d : Int) != 0) = false := by simp; omega
          clear hd0 hz0
          go_wp2_with fail
          refine (need_true _).mono ?_
          rintro e w' ⟨rfl, rfl⟩
          go_wp2_with fail
          refine (need_true _).mono ?_
          rintro e w' ⟨rfl, rfl⟩
          go_wp2
          go_quiet (fail)
          go_wp2
          go_ret2
          exact ⟨by rw [HE.out]; rfl, below_drewN (Below.refl _ _) _⟩
        · have hdz : ((d : Int) != 0) = true := by simp; omega
          clear hd0 hz0
          go_wp2_with fail
          refine (need_true _).mono ?_
          rintro e w' ⟨rfl, rfl⟩
          go_wp2_with fail
          refine (need_true _).mono ?_
          rintro e w' ⟨rfl, rfl⟩
          go_wp2
          go_quiet (fail)
          go_wp2
          go_ret2
          exact ⟨by rw [HE.out]; rfl, below_drewN (Below.refl _ _) _⟩
      · rw [dg_more hlt] at h3
        obtain ⟨hk, hc, hd⟩ := drop_at s k _ _ h3
        have hkz : (k : Int) < (s.size : Int) := by omega
        obtain ⟨d, hdd⟩ : ∃ d, n / 128 ^ k % 128 + 128 = d := ⟨_, rfl⟩
        obtain ⟨r, hrr⟩ : ∃ r, n / 128 ^ k % 128 = r := ⟨_, rfl⟩
        obtain ⟨e, hee⟩ : ∃ e, r * 2 ^ (7 * k) = e := ⟨_, rfl⟩
        obtain ⟨a2, haa⟩ : ∃ a2, acc + e = a2 := ⟨_, rfl⟩
        have hsum : a2 = n % 128 ^ (k + 1) := by
          rw [← haa, ← hee, ← hrr, HA.out, show 2 ^ (7 * k) = 128 ^ k by rw [Nat.pow_mul]]
          exact pow_step n k
        have hle : a2 ≤ n := by rw [hsum]; exact Nat.mod_le _ _
        have hr : r < 128 := by rw [← hrr]; exact Nat.mod_lt _ (by decide)
        have hdr : d = r + 128 := by rw [← hdd, hrr]
        rw [hdd] at hc
        have hb : (s[k].toNat : Int) = (d : Int) := by rw [hc, ofNat_toNat (by omega)]
        have hmod : (d : Int) % 128 = (r : Int) := by omega
        have hge : (128 : Int) ≤ (d : Int) := by omega
        have hn1 : (n : Int) ≤ 4611686018427387904 := Int.ofNat_le.2 HN.out
        have w1 : wrap64 ((r : Int) * 2 ^ (7 * k)) = (e : Int) := by
          have h5 : (r : Int) * 2 ^ (7 * k) = (e : Int) := by rw [← hee]; push_cast; rfl
          rw [h5]
          exact wrap_one (Nat.le_trans (by rw [← haa]; exact Nat.le_add_left _ _) hle) HN.out
        have w2 : wrap64 ((acc : Int) + (e : Int)) = (a2 : Int) := by
          exact wrap_two haa (Nat.le_trans hle HN.out)
        have HNX : Hid (a2 = n % 128 ^ (k + 1) ∧ s.data.toList.drop (k + 1) = dg (n / 128 ^ (k + 1)) ++ rest ∧ 128 ^ (k + 1) ≤ n) := by
          refine ⟨hsum, ?_, ?_⟩
          · rw [hd, Nat.pow_succ, Nat.div_div_eq_div_mul]
            rfl
          · rw [Nat.pow_succ]
            have h5 : 128 ≤ n / 128 ^ k := by omega
            rw [Nat.le_div_iff_mul_le (Nat.pow_pos (by decide))] at h5
            rw [Nat.mul_comm]
            exact h5
        clear h3 hlt hc hd hdd hrr hee haa hsum hle hr hdr hn1
        go_wp2
        go_roundg (gk - 1)
        case measure => have := HG.out; omega
        case rel => exact ⟨k + 1, a2, congrArg _ w2, by go_num, by have := HG.out; omega, HNX.out.1, HNX.out.2.1, .inr HNX.out.2.2, rfl⟩
end Go.Proofs.YtdpgdnofiepkoaaDoor
