/-
  The law SpaceRuns, walked: for every map and every number it returns true and changes nothing that was there. Condition: the map lies in memory.
-/
import Derived.Test.YtjghfecnekgfpaaS6Awake
import Derived.Test.YtjghfecnekgfpaaS6Ref
namespace Go.Proofs.Ytjghfecnekgfpaa
open Go.RowKit

set_option maxHeartbeats 4000000 in
theorem runs_any (a : Option Addr) (cap : Nat) (L : List Bool) (n : Int) (w : World) (hm : Mp w a cap L) :
    Calls Try.prog 3 #[.slice a L.length cap, .int .i64 n] w fun e w' => e = .returned (.bool true) ∧ Below w.heap.size w w' := by
  have HM := Lib.hid hm
  clear hm
  by_cases h1 : 200 < L.length
  · have h2 : (200 : Int) < (L.length : Int) := by omega
    clear h1
    go_enter Try.func3, Try.ntmps3
    go_wp2_with fail
    refine (awake_any _).mono ?_
    rintro e w1 ⟨rfl, hb⟩
    have HB := Lib.hid hb
    clear hb
    go_wp2_with fail
    refine (awake_any _).mono ?_
    rintro e w2 ⟨rfl, hb⟩
    have HB2 := Lib.hid (HB.out.trans (hb.mono HB.out.size))
    clear hb
    go_wp2
    go_ret
    exact ⟨rfl, HB2.out⟩
  · have h2 : ¬ (200 : Int) < (L.length : Int) := by omega
    have HL := Lib.hid (show L.length ≤ 100000 by omega)
    clear h1
    obtain ⟨f, hf⟩ : ∃ f, fr L = f := ⟨_, rfl⟩
    obtain ⟨g, hg⟩ : ∃ g, lg L = g := ⟨_, rfl⟩
    have hgf : (g : Int) ≤ (f : Int) := by have := lg_fr L; omega
    have HF := Lib.hid hf
    have HG := Lib.hid hg
    clear hf hg
    by_cases hn : n < 1
    · have hn2 : ¬ (1 : Int) ≤ n := by omega
      go_enter Try.func3, Try.ntmps3
      go_wp2_with fail
      refine (awake_any _).mono ?_
      rintro e w1 ⟨rfl, hb⟩
      have HB := Lib.hid hb
      have HM1 := Lib.hid (HM.out.below hb)
      clear hb
      go_wp2_with fail
      refine (first_low _ _ _ n hn _).mono ?_
      rintro e w2 ⟨rfl, rfl⟩
      go_wp2_with fail
      refine (longest_any _ _ L HL.out _ HM1.out).mono ?_
      rintro e w2 ⟨rfl, rfl⟩
      rw [HG.out]
      go_wp2_with fail
      refine (free_any _ _ L HL.out _ HM1.out).mono ?_
      rintro e w2 ⟨rfl, rfl⟩
      rw [HF.out]
      go_wp2
      go_ret
      exact ⟨rfl, HB.out⟩
    · have hn2 : (1 : Int) ≤ n := by omega
      obtain ⟨m, rfl⟩ : ∃ m : Nat, n = (m : Int) := ⟨n.toNat, by omega⟩
      go_enter Try.func3, Try.ntmps3
      go_wp2_with fail
      refine (awake_any _).mono ?_
      rintro e w1 ⟨rfl, hb⟩
      have HB := Lib.hid hb
      have HM1 := Lib.hid (HM.out.below hb)
      clear hb
      go_wp2_with fail
      refine (first_any _ _ L m (by omega) HL.out _ HM1.out).mono ?_
      rintro e w2 ⟨p, ok, rfl, hf, rfl⟩
      have HFI := Lib.hid hf
      clear hf
      go_wp2_with fail
      refine (longest_any _ _ L HL.out _ HM1.out).mono ?_
      rintro e w2 ⟨rfl, rfl⟩
      rw [HG.out]
      go_wp2_with fail
      refine (rfirst_any _ _ L m (by omega) HL.out _ HM1.out).mono ?_
      rintro e w2 ⟨z, rfl, hz, rfl⟩
      have hlg := HFI.out.lg
      rw [HG.out] at hlg
      rcases hz with ⟨q, rfl, hq⟩ | ⟨rfl, hq⟩
      · obtain ⟨rfl, rfl⟩ := hq.eq HFI.out
        have hmg : (m : Int) ≤ (g : Int) := by have := of_decide_eq_true hlg.symm; omega
        clear hlg hq
        have hq0 : (0 : Int) ≤ (q : Int) := by omega
        have hqq : ((q : Int) != (q : Int)) = false := by simp
        go_wp2_with fail
        refine (free_any _ _ L HL.out _ HM1.out).mono ?_
        rintro e w2 ⟨rfl, rfl⟩
        rw [HF.out]
        go_wp2
        go_ret
        exact ⟨rfl, HB.out⟩
      · obtain ⟨rfl, rfl⟩ := hq.eq HFI.out
        have hmg : ¬ (m : Int) ≤ (g : Int) := by have := of_decide_eq_false hlg.symm; omega
        clear hlg hq
        go_wp2_with fail
        refine (free_any _ _ L HL.out _ HM1.out).mono ?_
        rintro e w2 ⟨rfl, rfl⟩
        rw [HF.out]
        go_wp2
        go_ret
        refine ⟨?_, HB.out⟩
        have h9 : decide (m ≤ g) = false := decide_eq_false (by omega)
        simp [h9]
end Go.Proofs.Ytjghfecnekgfpaa
