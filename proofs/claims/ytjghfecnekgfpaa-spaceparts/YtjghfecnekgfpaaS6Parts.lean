/-
  The law SpaceParts, walked: for every map and every two numbers it returns true and changes nothing that was there. Condition: the map lies in memory.
-/
import Derived.Test.YtjghfecnekgfpaaS6Own
namespace Go.Proofs.Ytjghfecnekgfpaa
open Go.RowKit

theorem isRun.set_false {l : List Bool} {a n : Nat} (h : isRun l a n) (i : Nat) : isRun (l.set i false) a n := by
  refine ⟨by rw [List.length_set]; exact h.1, fun j hj => ?_⟩
  by_cases e : i = a + j
  · subst e
    rw [List.getElem?_set_self (by have := h.1; omega)]
  · rw [List.getElem?_set_ne e]
    exact h.2 j hj
theorem lg_set (l : List Bool) (i : Nat) : lg l ≤ lg (l.set i false) := by
  obtain ⟨a, h⟩ := lg_run l
  exact run_lg _ a _ (h.set_false i)
theorem fr_set : ∀ (l : List Bool) (i : Nat), fr l ≤ fr (l.set i false)
  | [], i => by simp
  | x :: r, 0 => by
    cases x <;> simp [fr]
  | x :: r, i + 1 => by
    have := fr_set r i
    unfold fr at *
    rw [List.set_cons_succ, List.countP_cons, List.countP_cons]
    omega
/-- A longer run isn't found ahead of a shorter one. -/
theorem first_longer {l : List Bool} {k a b : Nat} {ok : Bool} (h : FirstIs l k a ok) (h' : FirstIs l (k + 1) b true) : ok = true ∧ a ≤ b := by
  have hb : isRun l b k := by
    rcases h' with ⟨_, h1, _⟩ | ⟨h1, _⟩
    · exact h1.short (by omega)
    · cases h1
  rcases h with ⟨rfl, h1, h2⟩ | ⟨rfl, _, h1⟩
  · refine ⟨rfl, ?_⟩
    rcases Nat.lt_or_ge b a with h3 | h3
    · exact absurd hb (h2 b h3)
    · exact h3
  · exact absurd hb (h1 b)

theorem parts_long (a : Option Addr) (cap n : Nat) (x y : Int) (w : World) (h : 200 < n) :
    Calls Try.prog 4 #[.slice a n cap, .int .u8 x, .int .u8 y] w fun e w' => e = .returned (.bool true) ∧ Below w.heap.size w w' := by
  have h2 : (200 : Int) < (n : Int) := by omega
  clear h
  go_enter Try.func4, Try.ntmps4
  go_wp2_with fail
  refine (awake_any _).mono ?_
  rintro e w1 ⟨rfl, hb⟩
  have HB := Lib.hid hb
  clear hb
  go_wp2_with fail
  refine (awake_any _).mono ?_
  rintro e w2 ⟨rfl, hb⟩
  have HB2 := Lib.hid (HB.out.trans (hb.mono HB.out.size))
  clear hb
  go_wp2
  go_ret
  exact ⟨rfl, HB2.out⟩

set_option maxHeartbeats 4000000 in
theorem parts_short (a : Option Addr) (cap : Nat) (L : List Bool) (z y : Nat) (hz : z ≤ 255) (hy : y ≤ 255) (hl : L.length ≤ 200) (w : World) (hm : Mp w a cap L) :
    Calls Try.prog 4 #[.slice a L.length cap, .int .u8 (z : Int), .int .u8 (y : Int)] w fun e w' => e = .returned (.bool true) ∧ Below w.heap.size w w' := by
  have HM := Lib.hid hm
  have h1 : ¬ (200 : Int) < (L.length : Int) := by omega
  obtain ⟨N, hN⟩ : ∃ N, L.length = N := ⟨_, rfl⟩
  rw [hN] at h1 hl ⊢
  have HN := Lib.hid hN
  obtain ⟨k, hk0⟩ : ∃ k, 1 + z % 9 = k := ⟨_, rfl⟩
  have hk9 : k ≤ 9 := by have := Nat.mod_lt z (show 0 < 9 by decide); omega
  have hk1 : 1 ≤ k := by omega
  have hc1 : IntKind.i64.wrap (z : Int) = (z : Int) := IntWalk.i64_in _ (by omega)
  have hc3 : IntKind.i64.wrap (y : Int) = (y : Int) := IntWalk.i64_in _ (by omega)
  have hc2 : IntKind.i64.wrap (1 + (z : Int) % 9) = (k : Int) := by
    rw [show 1 + (z : Int) % 9 = (k : Int) by omega]
    exact IntWalk.i64_in _ (by omega)
  obtain ⟨k', hk'⟩ : ∃ k', k + 1 = k' := ⟨_, rfl⟩
  have hc4 : IntKind.i64.wrap ((k : Int) + 1) = (k' : Int) := by
    rw [show (k : Int) + 1 = (k' : Int) by omega]
    exact IntWalk.i64_in _ (by omega)
  have HK1 := Lib.hid hk1
  have HK' := Lib.hid hk'
  have HL := Lib.hid hl
  have HL0 := Lib.hid (show L.length ≤ 100000 by have := HN.out; omega)
  clear hm hN hk0 hk9 hk1 hl hk'
  have HFA := Lib.hid (fun w1 (h : Mp w1 a cap L) => by have := first_any a cap L k HK1.out HL0.out w1 h; rw [HN.out] at this; exact this)
  have HFB := Lib.hid (fun w1 (h : Mp w1 a cap L) => by have := first_any a cap L k' (by have := HK'.out; omega) HL0.out w1 h; rw [HN.out] at this; exact this)
  have HLA := Lib.hid (fun w1 (h : Mp w1 a cap L) => by have := longest_any a cap L HL0.out w1 h; rw [HN.out] at this; exact this)
  have HRA := Lib.hid (fun w1 (h : Mp w1 a cap L) => by have := free_any a cap L HL0.out w1 h; rw [HN.out] at this; exact this)
  go_enter Try.func4, Try.ntmps4
  go_wp2_with fail
  refine (awake_any _).mono ?_
  rintro e w1 ⟨rfl, hb⟩
  have HB := Lib.hid hb
  have HM1 := Lib.hid (HM.out.below hb)
  clear hb
  go_wp2_with fail
  refine (HFA.out _ HM1.out).mono ?_
  rintro e w2 ⟨p, ok, rfl, hf, rfl⟩
  have HF := Lib.hid hf
  clear hf
  go_wp2_with fail
  refine (HFB.out _ HM1.out).mono ?_
  rintro e w2 ⟨p', ok', rfl, hf, rfl⟩
  have HF' := Lib.hid hf
  clear hf HFA HFB
  have hor : ok' = false ∨ (ok' = true ∧ ok = true ∧ ¬ (p' : Int) < (p : Int)) := by
    cases ok'
    · exact .inl rfl
    · have h8 := first_longer HF.out (by have := HF'.out; rw [← HK'.out] at this; exact this)
      exact .inr ⟨rfl, h8.1, by omega⟩
  clear HF HF'
  rcases hor with rfl | ⟨rfl, rfl, h10⟩
  all_goals
    go_wp2_with (at_builtin; refine Stopped.go ?_)
    unfold Stopped
    refine wl_own6 (by rfl) _ _ (by rfl) w1.heap.size _ [] (by rfl) (OwnM.empty w1 w1.heap.size (Nat.le_refl _)) a N cap L ?x1 ?m1 HN.out ?f1 ?b1 ?_
    case x1 => rfl
    case m1 => exact HM1.out.below ((Below.refl _ _).alloc (Nat.le_refl _) (.cells #[] 4))
    case f1 => have := HL.out; simp; omega
    case b1 => simp
    intro v3 w3 ho3 hb3
    have HB3 := Lib.hid (((Below.refl w1.heap.size w1).alloc (Nat.le_refl _) (.cells #[] 4)).trans hb3)
    have ho3' : OwnM w3 w1.heap.size v3 L := ho3
    clear ho3 hb3
    by_cases h0 : 0 < N
    · have h0' : (0 : Int) < (N : Int) := by omega
      obtain ⟨g, c, hv⟩ := ho3'.cons (by have := HN.out; omega)
      rw [HN.out] at hv
      subst hv
      obtain ⟨r, hr, hrN⟩ : ∃ r : Nat, (y : Int) % (N : Int) = (r : Int) ∧ r < N := ⟨y % N, by rw [Int.natCast_emod], Nat.mod_lt y h0⟩
      have hrN' : (r : Int) < (N : Int) := by omega
      obtain ⟨x, hc, hf⟩ := ho3'.at (k := r) (by have := HN.out; omega)
      have HS := Lib.hid (ho3'.set r (by have := HN.out; omega) false)
      have HG := Lib.hid ho3'.blk
      have hw : IntKind.i64.wrap (r : Int) = (r : Int) := IntWalk.i64_in _ (by have := HL.out; omega)
      clear ho3'
      have HB4 := Lib.hid (HB3.out.setCell (p := ⟨g, r, none⟩) HG.out (.bool false))
      obtain ⟨a5, cap5, hv5, hm5, _⟩ := HS.out.mp
      have HM5 := Lib.hid hm5
      rw [List.length_set, HN.out] at hv5
      injection hv5 with e1 _ e2
      subst e1 e2
      clear hm5
      have HL5 := Lib.hid (show (L.set r false).length = N by rw [List.length_set]; exact HN.out)
      go_wp2_with fail
      have c1 := longest_any _ _ (L.set r false) (by have := HL5.out; have := HL.out; omega) _ HM5.out
      rw [HL5.out] at c1
      refine c1.mono ?_
      rintro e w5 ⟨rfl, rfl⟩
      have HM6 := Lib.hid (HM1.out.below HB4.out)
      have HB5 := Lib.hid (HB.out.trans (HB4.out.mono HB.out.size))
      obtain ⟨l1, hl1⟩ : ∃ l1, lg (L.set r false) = l1 := ⟨_, rfl⟩
      obtain ⟨l2, hl2⟩ : ∃ l2, lg L = l2 := ⟨_, rfl⟩
      have hll : (l2 : Int) ≤ (l1 : Int) := by have := lg_set L r; omega
      have HL2 := Lib.hid hl2
      rw [hl1]
      clear hl1 hl2 c1
      go_wp2_with fail
      refine (HLA.out _ HM6.out).mono ?_
      rintro e w5 ⟨rfl, rfl⟩
      rw [HL2.out]
      go_wp2_with fail
      have c1 := free_any _ _ (L.set r false) (by have := HL5.out; have := HL.out; omega) _ HM5.out
      rw [HL5.out] at c1
      refine c1.mono ?_
      rintro e w5 ⟨rfl, rfl⟩
      obtain ⟨f1, hf1⟩ : ∃ f1, fr (L.set r false) = f1 := ⟨_, rfl⟩
      obtain ⟨f2, hf2⟩ : ∃ f2, fr L = f2 := ⟨_, rfl⟩
      have hff : (f2 : Int) ≤ (f1 : Int) := by have := fr_set L r; omega
      have HF2 := Lib.hid hf2
      rw [hf1]
      clear hf1 hf2 c1
      go_wp2_with fail
      refine (HRA.out _ HM6.out).mono ?_
      rintro e w5 ⟨rfl, rfl⟩
      rw [HF2.out]
      go_wp2
      go_ret
      exact ⟨rfl, HB5.out⟩
    · obtain rfl : N = 0 := by omega
      obtain ⟨a5, cap5, hv5, hm5, _⟩ := ho3'.mp
      rw [HN.out] at hv5
      subst hv5
      have HM5 := Lib.hid hm5
      clear hm5 ho3'
      have HM6 := Lib.hid (HM1.out.below HB3.out)
      have HB5 := Lib.hid (HB.out.trans (HB3.out.mono HB.out.size))
      have hll : ((lg L : Nat) : Int) ≤ ((lg L : Nat) : Int) := Int.le_refl _
      have hff : ((fr L : Nat) : Int) ≤ ((fr L : Nat) : Int) := Int.le_refl _
      go_wp2_with fail
      have c1 := longest_any _ _ L HL0.out _ HM5.out
      rw [HN.out] at c1
      refine c1.mono ?_
      rintro e w5 ⟨rfl, rfl⟩
      go_wp2_with fail
      refine (HLA.out _ HM6.out).mono ?_
      rintro e w5 ⟨rfl, rfl⟩
      go_wp2_with fail
      have c2 := free_any _ _ L HL0.out _ HM5.out
      rw [HN.out] at c2
      refine c2.mono ?_
      rintro e w5 ⟨rfl, rfl⟩
      go_wp2_with fail
      refine (HRA.out _ HM6.out).mono ?_
      rintro e w5 ⟨rfl, rfl⟩
      go_wp2
      go_ret
      exact ⟨rfl, HB5.out⟩
theorem parts_any (a : Option Addr) (cap : Nat) (L : List Bool) (z y : Int) (hz : 0 ≤ z ∧ z ≤ 255) (hy : 0 ≤ y ∧ y ≤ 255) (w : World) (hm : Mp w a cap L) :
    Calls Try.prog 4 #[.slice a L.length cap, .int .u8 z, .int .u8 y] w fun e w' => e = .returned (.bool true) ∧ Below w.heap.size w w' := by
  by_cases h : 200 < L.length
  · exact parts_long a cap _ z y w h
  · obtain ⟨z, rfl⟩ : ∃ x : Nat, z = (x : Int) := ⟨z.toNat, by omega⟩
    obtain ⟨y, rfl⟩ : ∃ x : Nat, y = (x : Int) := ⟨y.toNat, by omega⟩
    exact parts_short a cap L z y (by omega) (by omega) (by omega) w hm
end Go.Proofs.Ytjghfecnekgfpaa
