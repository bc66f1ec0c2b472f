/-
  The law SpaceLike, walked: for every two maps and every number it returns true and changes nothing that was there. Condition: the maps lie in memory.
-/
import Derived.Test.YtjghfecnekgfpaaS6Own
namespace Go.Proofs.Ytjghfecnekgfpaa
open Go.RowKit

theorem first_like {L M : List Bool} {k p : Nat} (h : FirstIs L k p true) : p + k ≤ L.length ∧ FirstIs (L.take (p + k) ++ M) k p true := by
  rcases h with ⟨_, h1, h2⟩ | ⟨h, _⟩
  · refine ⟨h1.1, .inl ⟨rfl, (h1.take (Nat.le_refl _)).append M, fun a ha hr => h2 a ha ?_⟩⟩
    exact (hr.left (by rw [List.length_take, Nat.min_eq_left h1.1]; omega)).of_take
  · cases h

theorem like_long (a : Option Addr) (cap n : Nat) (a' : Option Addr) (cap' n' : Nat) (k : Int) (w : World) (h : 200 < n ∨ 200 < n') :
    Calls Try.prog 5 #[.slice a n cap, .slice a' n' cap', .int .u8 k] w fun e w' => e = .returned (.bool true) ∧ Below w.heap.size w w' := by
  by_cases h1 : 200 < n
  · have h2 : (200 : Int) < (n : Int) := by omega
    clear h
    go_enter Try.func5, Try.ntmps5
    go_wp2_with fail
    refine (awake_any _).mono ?_
    rintro e w1 ⟨rfl, hb⟩
    have HB := Lib.hid hb
    clear hb
    go_wp2_with fail
    refine (awake_any _).mono ?_
    rintro e w2 ⟨rfl, hb⟩
    have HB2 := Lib.hid (HB.out.trans (hb.mono HB.out.size))
    clear hb
    go_wp2
    go_ret
    exact ⟨rfl, HB2.out⟩
  · have h2 : ¬ (200 : Int) < (n : Int) := by omega
    have h3 : (200 : Int) < (n' : Int) := by omega
    clear h
    go_enter Try.func5, Try.ntmps5
    go_wp2_with fail
    refine (awake_any _).mono ?_
    rintro e w1 ⟨rfl, hb⟩
    have HB := Lib.hid hb
    clear hb
    go_wp2_with fail
    refine (awake_any _).mono ?_
    rintro e w2 ⟨rfl, hb⟩
    have HB2 := Lib.hid (HB.out.trans (hb.mono HB.out.size))
    clear hb
    go_wp2
    go_ret
    exact ⟨rfl, HB2.out⟩

set_option maxHeartbeats 4000000 in
theorem like_short (a : Option Addr) (cap : Nat) (L : List Bool) (a' : Option Addr) (cap' : Nat) (M : List Bool) (z : Nat) (hz : z ≤ 255) (hl : L.length ≤ 200) (hl' : M.length ≤ 200) (w : World) (hm : Mp w a cap L) (hm' : Mp w a' cap' M) :
    Calls Try.prog 5 #[.slice a L.length cap, .slice a' M.length cap', .int .u8 (z : Int)] w fun e w' => e = .returned (.bool true) ∧ Below w.heap.size w w' := by
  have HM := Lib.hid hm
  have HM' := Lib.hid hm'
  have h1 : ¬ (200 : Int) < (L.length : Int) := by omega
  have h2 : ¬ (200 : Int) < (M.length : Int) := by omega
  obtain ⟨N, hN⟩ : ∃ N, L.length = N := ⟨_, rfl⟩
  obtain ⟨K, hK⟩ : ∃ K, M.length = K := ⟨_, rfl⟩
  rw [hN] at h1 hl ⊢
  rw [hK] at h2 hl' ⊢
  have HN := Lib.hid hN
  have HK := Lib.hid hK
  obtain ⟨k, hk0⟩ : ∃ k, 1 + z % 9 = k := ⟨_, rfl⟩
  have hk9 : k ≤ 9 := by have := Nat.mod_lt z (show 0 < 9 by decide); omega
  have hk1 : 1 ≤ k := by omega
  have hc1 : IntKind.i64.wrap (z : Int) = (z : Int) := IntWalk.i64_in _ (by omega)
  have hc2 : IntKind.i64.wrap (1 + (z : Int) % 9) = (k : Int) := by
    rw [show 1 + (z : Int) % 9 = (k : Int) by omega]
    exact IntWalk.i64_in _ (by omega)
  have HK9 := Lib.hid hk9
  have HK1 := Lib.hid hk1
  have HL := Lib.hid hl
  have HL' := Lib.hid hl'
  clear hm hm' hN hK hk0 hk9 hk1 hl hl'
  have HFA := Lib.hid (fun w1 (h : Mp w1 a cap L) => by have := first_any a cap L k HK1.out (by have := HN.out; have := HL.out; omega) w1 h; rw [HN.out] at this; exact this)
  go_enter Try.func5, Try.ntmps5
  go_wp2_with fail
  refine (awake_any _).mono ?_
  rintro e w1 ⟨rfl, hb⟩
  have HB := Lib.hid hb
  have HM1 := Lib.hid (HM.out.below hb)
  have HM2 := Lib.hid (HM'.out.below hb)
  clear hb
  go_wp2_with fail
  refine (HFA.out _ HM1.out).mono ?_
  rintro e w2 ⟨p, ok, rfl, hf, rfl⟩
  have HF := Lib.hid hf
  clear hf
  cases ok
  · go_wp2
    go_ret
    exact ⟨rfl, HB.out⟩
  · have hlk := first_like (M := M) HF.out
    have hpk : p + k ≤ N := by have := HN.out; omega
    have HLK := Lib.hid hlk.2
    clear hlk
    obtain ⟨q, hq⟩ : ∃ q, p + k = q := ⟨_, rfl⟩
    have hw : IntKind.i64.wrap ((p : Int) + (k : Int)) = (q : Int) := by
      rw [show (p : Int) + (k : Int) = (q : Int) by omega]
      exact IntWalk.i64_in _ (by have := HL.out; omega)
    obtain ⟨b, off, rfl, hcp⟩ := Mp.start HM1.out (by have := HN.out; have := HK1.out; omega)
    have hqc : (q : Int) ≤ (cap : Int) := by have := HM1.out.1; have := HN.out; omega
    have hc0 : ¬ cap = 0 := by omega
    have HQ := Lib.hid hq
    have HPK := Lib.hid hpk
    clear hq hpk hcp HFA
    go_wp2_with (at_builtin; refine Stopped.go ?_)
    unfold Stopped
    refine wl_own6 (by rfl) _ _ (by rfl) w1.heap.size _ [] (by rfl) (OwnM.empty w1 w1.heap.size (Nat.le_refl _)) (some ⟨b, off, none⟩) q cap (L.take q) ?x1 ?m1 ?l1 ?f1 ?b1 ?_
    case x1 => rfl
    case m1 =>
      have h5 := Mp.part (HM1.out.below ((Below.refl _ _).alloc (Nat.le_refl _) (.cells #[] 4))) 0 q cap (by have := HN.out; have := HPK.out; have := HQ.out; omega) (by omega)
      exact h5
    case l1 => have := HN.out; have := HPK.out; have := HQ.out; simp; omega
    case f1 => have := HL.out; have := HPK.out; have := HQ.out; simp; omega
    case b1 => simp
    intro v3 w3 ho3 hb3
    have HB3 := Lib.hid (((Below.refl w1.heap.size w1).alloc (Nat.le_refl _) (.cells #[] 4)).trans hb3)
    have HO3 := Lib.hid ho3
    clear ho3 hb3
    go_wp2_with (at_builtin; refine Stopped.go ?_)
    unfold Stopped
    refine wl_own6 (by rfl) _ _ (by rfl) w1.heap.size v3 _ (by rfl) HO3.out a' K cap' M (by rfl) (HM2.out.below HB3.out) HK.out ?f2 HB3.out.size ?_
    case f2 => have := HL'.out; have := HL.out; have := HPK.out; have := HQ.out; simp; omega
    intro v4 w4 ho4 hb4
    have HB4 := Lib.hid (HB3.out.trans hb4)
    obtain ⟨a5, cap5, rfl, hm5, _⟩ := OwnM.mp ho4
    have HM5 := Lib.hid hm5
    obtain ⟨R, hR⟩ : ∃ R, ([] ++ L.take q ++ M) = R := ⟨_, rfl⟩
    have HR := Lib.hid hR
    clear ho4 hb4 hm5
    rw [hR]
    clear hR
    have HB5 := Lib.hid (HB.out.trans (HB4.out.mono HB.out.size))
    go_wp2_with fail
    refine (first_any a5 cap5 R k HK1.out ?_ _ (by have := HM5.out; rwa [HR.out] at this)).mono ?_
    · rw [← HR.out]
      have := HK.out; have := HL'.out; have := HL.out; have := HPK.out; have := HQ.out
      simp
      omega
    rintro e w6 ⟨p6, ok6, rfl, hf6, rfl⟩
    obtain ⟨rfl, rfl⟩ := hf6.eq (show FirstIs R k p true by have h7 := HLK.out; rw [HQ.out] at h7; rw [← HR.out]; simpa using h7)
    have hpp : ((p6 : Int) == (p6 : Int)) = true := by simp
    go_wp2
    go_ret
    exact ⟨rfl, HB5.out⟩
theorem like_any (a : Option Addr) (cap : Nat) (L : List Bool) (a' : Option Addr) (cap' : Nat) (M : List Bool) (z : Int) (h0 : 0 ≤ z) (hz : z ≤ 255) (w : World) (hm : Mp w a cap L) (hm' : Mp w a' cap' M) :
    Calls Try.prog 5 #[.slice a L.length cap, .slice a' M.length cap', .int .u8 z] w fun e w' => e = .returned (.bool true) ∧ Below w.heap.size w w' := by
  by_cases h : 200 < L.length ∨ 200 < M.length
  · exact like_long a cap _ a' cap' _ z w h
  · obtain ⟨y, rfl⟩ : ∃ y : Nat, z = (y : Int) := ⟨z.toNat, by omega⟩
    exact like_short a cap L a' cap' M y (by omega) (by omega) (by omega) w hm hm'
end Go.Proofs.Ytjghfecnekgfpaa
