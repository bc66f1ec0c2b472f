/-
  The law BlobPages, walked: for every number it returns true and changes nothing that was there. No condition but the number's own bounds.
-/
import Derived.Test.YtpimclhdimcioaaS7Awake
namespace Go.Proofs.Ytpimclhdimcioaa
open Go.RowKit

set_option maxHeartbeats 1000000 in
theorem lawPages_any (n : Int) (h : 0 ≤ n ∧ n ≤ 65535) (w : World) : Calls Try.prog 3 #[.int .u16 n] w fun e w' => e = .returned (.bool true) ∧ Below w.heap.size w w' := by
  obtain ⟨m, rfl⟩ : ∃ m : Nat, n = (m : Int) := ⟨n.toNat, by omega⟩
  obtain ⟨r, hr⟩ : ∃ r, m % 16320 = r := ⟨_, rfl⟩
  have hr1 : (m : Int) % 16320 = (r : Int) := by omega
  have hr2 : r < 16320 := by omega
  have hw0 : IntKind.i64.wrap (m : Int) = (m : Int) := IntWalk.i64_in _ (by omega)
  obtain ⟨k, hk⟩ : ∃ k : Nat, 1 + r = k := ⟨_, rfl⟩
  have hw1 : IntKind.i64.wrap (1 + (r : Int)) = (k : Int) := by
    rw [show 1 + (r : Int) = (k : Int) by omega]
    exact IntWalk.i64_in _ (by omega)
  have hw2 : IntKind.i64.wrap ((k : Int) + 1) = (k : Int) + 1 := IntWalk.i64_in _ (by omega)
  have hw3 : IntKind.i64.wrap ((k : Int) + 64) = (k : Int) + 64 := IntWalk.i64_in _ (by omega)
  obtain ⟨p, hp⟩ : ∃ p, pgs (k : Int) = p := ⟨_, rfl⟩
  obtain ⟨q, hq⟩ : ∃ q, pgs ((k : Int) + 1) = q := ⟨_, rfl⟩
  have h64 : pgs ((k : Int) + 64) = p + 1 := by
    rw [← hp]
    unfold pgs
    rw [if_neg (by omega), if_neg (by omega)]
    omega
  have hpq : 1 ≤ p ∧ p ≤ q ∧ p ≤ 256 := by
    rw [← hp, ← hq]
    unfold pgs
    rw [if_neg (by omega), if_neg (by omega)]
    omega
  obtain ⟨hp1, hpq2, hp3⟩ := hpq
  have hw4 : IntKind.i64.wrap (p + 1) = p + 1 := IntWalk.i64_in _ (by omega)
  have HP := Lib.hid hp
  have HQ := Lib.hid hq
  have H64 := Lib.hid h64
  have E0 := Lib.hid (show pgs 0 = 0 by decide)
  have E1 := Lib.hid (show pgs 16385 = 0 by decide)
  have E2 := Lib.hid (show pgs 16384 = 256 by decide)
  clear hp hq h64 hr hk h
  go_enter Try.func3, Try.ntmps3
  go_wp2_with fail
  refine (awake7 _).mono ?_
  rintro e w1 ⟨rfl, hb⟩
  have HB := Lib.hid hb
  clear hb
  go_wp2_with fail
  refine (pages_any _ _).mono ?_
  rintro e w2 ⟨rfl, rfl⟩
  rw [HP.out]
  go_wp2_with fail
  refine (pages_any _ _).mono ?_
  rintro e w2 ⟨rfl, rfl⟩
  rw [HQ.out]
  go_wp2_with fail
  refine (pages_any _ _).mono ?_
  rintro e w2 ⟨rfl, rfl⟩
  rw [HP.out]
  go_wp2_with fail
  refine (pages_any _ _).mono ?_
  rintro e w2 ⟨rfl, rfl⟩
  rw [H64.out]
  go_wp2_with fail
  refine (pages_any _ _).mono ?_
  rintro e w2 ⟨rfl, rfl⟩
  rw [HP.out]
  go_wp2_with fail
  refine (pages_any _ _).mono ?_
  rintro e w2 ⟨rfl, rfl⟩
  rw [E0.out]
  go_wp2_with fail
  refine (pages_any _ _).mono ?_
  rintro e w2 ⟨rfl, rfl⟩
  rw [E1.out]
  go_wp2_with fail
  refine (pages_any _ _).mono ?_
  rintro e w2 ⟨rfl, rfl⟩
  rw [E2.out]
  go_wp2
  go_ret
  exact ⟨rfl, HB.out⟩
end Go.Proofs.Ytpimclhdimcioaa
