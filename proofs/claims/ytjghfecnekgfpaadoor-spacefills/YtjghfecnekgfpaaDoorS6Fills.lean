/-
  The law SpaceFills, walked: for every map and every list of sizes it returns true and changes nothing that was there. Condition: both lie in memory.
-/
import Derived.Test.YtjghfecnekgfpaaDoorS6Mark
namespace Go.Proofs.YtjghfecnekgfpaaDoor
open Go.RowKit

theorem fills_long (a : Option Addr) (cap n : Nat) (a' : Option Addr) (cap' n' : Nat) (w : World) (h : 200 < n ∨ 60 < n') :
    Calls Tryd.prog 3 #[.slice a n cap, .slice a' n' cap'] w fun e w' => e = .returned (.bool true) ∧ Below w.heap.size w w' := by
  by_cases h1 : 200 < n
  · have h2 : (200 : Int) < (n : Int) := by omega
    clear h
    go_enter Tryd.func3, Tryd.ntmps3
    go_wp2_with fail
    refine (awake_any _).mono ?_
    rintro e w1 ⟨rfl, hb⟩
    have HB := Lib.hid hb
    clear hb
    go_wp2_with fail
    refine (awake_any _).mono ?_
    rintro e w2 ⟨rfl, hb⟩
    have HB2 := Lib.hid (HB.out.trans (hb.mono HB.out.size))
    clear hb
    go_wp2
    go_ret
    exact ⟨rfl, HB2.out⟩
  · have h2 : ¬ (200 : Int) < (n : Int) := by omega
    have h3 : (60 : Int) < (n' : Int) := by omega
    clear h
    go_enter Tryd.func3, Tryd.ntmps3
    go_wp2_with fail
    refine (awake_any _).mono ?_
    rintro e w1 ⟨rfl, hb⟩
    have HB := Lib.hid hb
    clear hb
    go_wp2_with fail
    refine (awake_any _).mono ?_
    rintro e w2 ⟨rfl, hb⟩
    have HB2 := Lib.hid (HB.out.trans (hb.mono HB.out.size))
    clear hb
    go_wp2
    go_ret
    exact ⟨rfl, HB2.out⟩

set_option maxRecDepth 10000 in
set_option maxHeartbeats 8000000 in
theorem fills_short (a : Option Addr) (cap : Nat) (L : List Bool) (aS : Option Addr) (capS : Nat) (S : List Int) (hS : ∀ z ∈ S, 0 ≤ z ∧ z ≤ 255) (hl : L.length ≤ 200) (hl' : S.length ≤ 60) (w : World) (hm : Mp w a cap L) (hs : RowOf (Value.int .u8) w aS capS S) :
    Calls Tryd.prog 3 #[.slice a L.length cap, .slice aS S.length capS] w fun e w' => e = .returned (.bool true) ∧ Below w.heap.size w w' := by
  have HM := Lib.hid hm
  have HS := Lib.hid hs
  have HZ := Lib.hid hS
  obtain ⟨N, hN⟩ : ∃ N, L.length = N := ⟨_, rfl⟩
  obtain ⟨M, hM⟩ : ∃ M, S.length = M := ⟨_, rfl⟩
  rw [hN, hM]
  rw [hN] at hl
  rw [hM] at hl'
  have HN := Lib.hid hN
  have HMS := Lib.hid hM
  have h1 : ¬ (200 : Int) < (N : Int) := by omega
  have h2 : ¬ (60 : Int) < (M : Int) := by omega
  clear hm hs hS hN hM
  go_enter Tryd.func3, Tryd.ntmps3
  go_wp2_with fail
  refine (awake_any _).mono ?_
  rintro e w1 ⟨rfl, hb⟩
  have HB1 := Lib.hid hb
  have HM1 := Lib.hid (HM.out.below hb)
  clear hb
  go_wp2
  clear h1 h2
  go_loopg [5, 6] M (fun g vn vi wx => ∃ (k : Nat) (aR : Option Addr) (cR : Nat) (R : List Bool), vn = .slice aR N cR ∧ vi = .int .i64 (k : Int) ∧ k + g = M ∧ Hid (R.length = N ∧ Mp wx aR cR R ∧ Below w.heap.size w wx))
  case atStart => exact ⟨0, a, cap, L, rfl, rfl, by omega, HN.out, HM1.out, HB1.out⟩
  case round =>
    clear HM1 HB1
    obtain ⟨k, aR, cR, R, rfl, rfl, hk, HR⟩ := hrel
    by_cases hlt : k < M
    · have hlt' : (k : Int) < (M : Int) := by omega
      obtain ⟨b, off, z, rfl, hc, _, hzk⟩ := HS.out.at HR.out.2.2 (k := k) (by have := HMS.out; omega)
      have hz := HZ.out z (List.mem_of_mem_drop (by rw [hzk]; exact List.mem_cons_self))
      obtain ⟨z, rfl⟩ : ∃ x : Nat, z = (x : Int) := ⟨z.toNat, by omega⟩
      have hz2 : z ≤ 255 := by omega
      clear hz hzk
      obtain ⟨n, hn0⟩ : ∃ n, 1 + z % 7 = n := ⟨_, rfl⟩
      have HN7 := Lib.hid (show n ≤ 7 by have := Nat.mod_lt z (show 0 < 7 by decide); omega)
      have HN1 := Lib.hid (show 1 ≤ n by omega)
      have hc1 : IntKind.i64.wrap (z : Int) = (z : Int) := IntWalk.i64_in _ (by omega)
      have hc2 : IntKind.i64.wrap (1 + (z : Int) % 7) = (n : Int) := by
        rw [show 1 + (z : Int) % 7 = (n : Int) by omega]
        exact IntWalk.i64_in _ (by have := HN7.out; omega)
      have hw : IntKind.i64.wrap ((k : Int) + 1) = (k : Int) + 1 := IntWalk.i64_in _ (by omega)
      have HRL := Lib.hid (show R.length ≤ 100000 by have := HR.out.1; omega)
      have c1 := Lib.hid (free_any aR cR R HRL.out _ HR.out.2.1)
      have c2 := Lib.hid (first_any aR cR R n HN1.out HRL.out _ HR.out.2.1)
      have c3 := Lib.hid (longest_any aR cR R HRL.out _ HR.out.2.1)
      rw [HR.out.1] at c1 c2 c3
      obtain ⟨f, hf⟩ : ∃ f, fr R = f := ⟨_, rfl⟩
      have HF := Lib.hid hf
      clear hn0 hf
      go_wp2_with fail
      refine c1.out.mono ?_
      rintro e w2 ⟨rfl, rfl⟩
      rw [HF.out]
      go_wp2_with fail
      refine c2.out.mono ?_
      rintro e w2 ⟨p, ok, rfl, hfi, rfl⟩
      cases ok
      · obtain ⟨g, hg⟩ : ∃ g, lg R = g := ⟨_, rfl⟩
        have hgn : ¬ (n : Int) ≤ (g : Int) := by
          have := of_decide_eq_false hfi.lg.symm
          omega
        have HG := Lib.hid hg
        clear hfi hg
        go_wp2_with fail
        refine c3.out.mono ?_
        rintro e w2 ⟨rfl, rfl⟩
        rw [HG.out]
        go_wp2
        go_roundg (gk - 1)
        case measure => omega
        case rel => exact ⟨k + 1, aR, cR, R, rfl, by simp, by omega, HR.out.1, HR.out.2.1, HR.out.2.2⟩
      · have HRun := Lib.hid (show isRun R p n by
          rcases hfi with ⟨_, h3, _⟩ | ⟨h3, _⟩
          · exact h3
          · cases h3)
        have HFM := Lib.hid (fr_mk n HRun.out)
        have c4 := Lib.hid (mark_good aR cR R p n true HRun.out.1 HN1.out HRun.out.2 HRL.out _ HR.out.2.1)
        rw [HR.out.1] at c4
        clear hfi
        go_wp2_with fail
        refine c4.out.mono ?_
        rintro e w3 ⟨a4, cap4, rfl, hm4, hb4⟩
        have HM4 := Lib.hid hm4
        have HB4 := Lib.hid (HR.out.2.2.trans (hb4.mono HR.out.2.2.size))
        have HL4 := Lib.hid (show (mk R p n true).length = N by rw [mk_len]; exact HR.out.1)
        have c5 := Lib.hid (free_any a4 cap4 (mk R p n true) (by have := HL4.out; omega) _ hm4)
        rw [HL4.out] at c5
        obtain ⟨f', hf'⟩ : ∃ f', fr (mk R p n true) = f' := ⟨_, rfl⟩
        have HF' := Lib.hid hf'
        have hw5 : IntKind.i64.wrap ((f : Int) - (n : Int)) = (f' : Int) := by
          have h8 := HFM.out
          rw [hf', HF.out] at h8
          rw [show (f : Int) - (n : Int) = (f' : Int) by omega]
          have h9 := fr_le R
          rw [HF.out] at h9
          exact IntWalk.i64_in _ (by have := HRL.out; omega)
        have hne : ((f' : Int) != (f' : Int)) = false := by simp
        clear hm4 hb4 hf' c1 c2 c3 c4
        go_wp2_with fail
        refine (codeNil6 _).mono ?_
        rintro e w5 ⟨rfl, rfl⟩
        go_wp2_with fail
        refine c5.out.mono ?_
        rintro e w5 ⟨rfl, rfl⟩
        rw [HF'.out]
        go_wp2
        go_roundg (gk - 1)
        case measure => omega
        case rel => exact ⟨k + 1, a4, cap4, mk R p n true, rfl, by simp, by omega, HL4.out, HM4.out, HB4.out⟩
    · have hlt' : ¬ (k : Int) < (M : Int) := by omega
      have HB := Lib.hid HR.out.2.2
      go_wp2
      go_ret
      exact ⟨rfl, HB.out⟩
theorem fills_any (a : Option Addr) (cap : Nat) (L : List Bool) (aS : Option Addr) (capS : Nat) (S : List Int) (hS : ∀ z ∈ S, (Lit.int .u8 z).wf = true) (w : World) (hm : Mp w a cap L) (hs : RowOf (Value.int .u8) w aS capS S) :
    Calls Tryd.prog 3 #[.slice a L.length cap, .slice aS S.length capS] w fun e w' => e = .returned (.bool true) ∧ Below w.heap.size w w' := by
  by_cases h : 200 < L.length ∨ 60 < S.length
  · exact fills_long a cap _ aS capS _ w h
  · exact fills_short a cap L aS capS S (fun z hz => bounds_u8 (hS z hz)) (by omega) (by omega) w hm hs
end Go.Proofs.YtjghfecnekgfpaaDoor
