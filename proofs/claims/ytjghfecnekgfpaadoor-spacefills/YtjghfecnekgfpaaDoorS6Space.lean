/-
  Contracts of package space: behind, First, Longest, Free, over a map that lies in memory. Condition: the map has no more than 100000 places.
-/
import Derived.Test.YtjghfecnekgfpaaDoorProg
import Derived.Test.YtjghfecnekgfpaaDoorRowOf
import Derived.Test.YtjghfecnekgfpaaDoorS6Math
import Derived.Deep.LoopGhost
import Derived.IntWalk
import Derived.Lib.Hide
namespace Go.Proofs.YtjghfecnekgfpaaDoor
open Go.RowKit

theorem RowOf.get {α : Type} {f : α → Value} {w : World} {a : Option Addr} {cap : Nat} {l : List α} (h : RowOf f w a cap l) {k : Nat} (hk : k < l.length) :
    ∃ b off x, a = some ⟨b, off, none⟩ ∧ w.cell? ⟨b, off + k, none⟩ = some (f x) ∧ l.take (k + 1) = l.take k ++ [x] ∧ l[k]? = some x := by
  rcases h.2 with h0 | ⟨b, off, rfl, hlt, hc⟩
  · rw [h0] at hk; simp at hk
  · have hx : l[k]? = some l[k] := List.getElem?_eq_getElem hk
    exact ⟨b, off, l[k], rfl, hc k l[k] hx, by rw [List.take_add_one, hx]; rfl, hx⟩
/-- A map of places in memory. -/
abbrev Mp (w : World) (a : Option Addr) (cap : Nat) (l : List Bool) : Prop := RowOf Value.bool w a cap l

theorem behind_any (r : Nat) (x : Bool) (hr : r ≤ 100000) (w : World) : Calls Tryd.prog 10 #[.int .i64 (r : Int), .bool x] w fun e w' => e = .returned (.int .i64 (bh r x : Int)) ∧ w = w' := by
  have hw : IntKind.i64.wrap ((r : Int) + 1) = (r : Int) + 1 := IntWalk.i64_in _ (by omega)
  cases x
  · go_enter Tryd.func10, Tryd.ntmps10
    go_wp2
    go_ret
    exact ⟨rfl, rfl⟩
  · go_enter Tryd.func10, Tryd.ntmps10
    go_wp2
    go_ret
    exact ⟨rfl, rfl⟩

theorem first_low (a : Option Addr) (len cap : Nat) (n : Int) (hn : n < 1) (w : World) : Calls Tryd.prog 6 #[.slice a len cap, .int .i64 n] w fun e w' => e = .returned (.tuple #[.int .i64 0, .bool false]) ∧ w = w' := by
  go_enter Tryd.func6, Tryd.ntmps6
  go_wp2
  go_ret2
  exact ⟨rfl, rfl⟩

set_option maxHeartbeats 2000000 in
theorem first_any (a : Option Addr) (cap : Nat) (L : List Bool) (n : Nat) (hn : 1 ≤ n) (hl : L.length ≤ 100000) (w : World) (hm : Mp w a cap L) :
    Calls Tryd.prog 6 #[.slice a L.length cap, .int .i64 (n : Int)] w fun e w' => ∃ (at_ : Nat) (ok : Bool), e = .returned (.tuple #[.int .i64 (at_ : Int), .bool ok]) ∧ FirstIs L n at_ ok ∧ w = w' := by
  have HM := Lib.hid hm
  obtain ⟨N, hN⟩ : ∃ N, L.length = N := ⟨_, rfl⟩
  rw [hN]
  rw [hN] at hl
  have HN := Lib.hid hN
  have h1 : ¬ (n : Int) < 1 := by omega
  have HN1 := Lib.hid hn
  clear hN hm hn
  go_enter Tryd.func6, Tryd.ntmps6
  go_wp2
  go_loopg [6, 13] N (fun g vr vi wx => ∃ (k r : Nat), vr = .int .i64 (r : Int) ∧ vi = .int .i64 (k : Int) ∧ k + g = N ∧ r ≤ N ∧ Hid (tr (L.take k) = r ∧ r < n ∧ ∀ a, a + n ≤ k → ¬ isRun L a n) ∧ w = wx)
  case atStart => exact ⟨0, 0, rfl, rfl, by omega, by omega, ⟨rfl, HN1.out, fun a ha => by have := HN1.out; omega⟩, rfl⟩
  case round =>
    obtain ⟨k, r, rfl, rfl, hk, hr, HR, rfl⟩ := hrel
    by_cases hlt : k < N
    · have hlt' : (k : Int) < (N : Int) := by omega
      obtain ⟨b, off, x, rfl, hc, htk, _⟩ := HM.out.get (k := k) (by have := HN.out; omega)
      have HT := Lib.hid htk
      clear htk
      have hw : IntKind.i64.wrap ((k : Int) + 1) = (k : Int) + 1 := IntWalk.i64_in _ (by omega)
      have HK := Lib.hid (show k < L.length by have := HN.out; omega)
      go_wp2_with fail
      refine (behind_any r x (by omega) _).mono ?_
      rintro e w2 ⟨rfl, rfl⟩
      have HB := Lib.hid HR.out.1
      obtain ⟨q, hq⟩ : ∃ q, bh r x = q := ⟨_, rfl⟩
      rw [hq]
      have HQ := Lib.hid hq
      clear hq hc
      by_cases he : q = n
      · have he' : ((q : Int) == (n : Int)) = true := by simp [he]
        have HF := Lib.hid (first_hit HK.out HT.out HR.out.2.2 (by rw [HB.out, HQ.out]; exact he))
        obtain ⟨d, hd⟩ : ∃ d, k + 1 - n = d := ⟨_, rfl⟩
        have hw2 : IntKind.i64.wrap ((k : Int) + 1 - (n : Int)) = (d : Int) := by
          have := HF.out.1
          rw [show (k : Int) + 1 - (n : Int) = (d : Int) by omega]
          exact IntWalk.i64_in _ (by omega)
        have HD := Lib.hid hd
        have HF2 := Lib.hid HF.out.2
        clear he hd HF
        go_wp2
        go_ret2
        exact ⟨d, true, rfl, by have := HF2.out; rwa [HD.out] at this, rfl⟩
      · have he' : ((q : Int) == (n : Int)) = false := by simp; omega
        have HF := Lib.hid (first_miss HK.out HT.out HR.out.2.2 (by rw [HB.out]; exact HR.out.2.1) (by rw [HB.out, HQ.out]; exact he))
        have HE := Lib.hid (show tr (L.take (k + 1)) = q by rw [HT.out, tr_snoc, HB.out, HQ.out])
        have HQL := Lib.hid (show q ≤ N by
          have h3 := tr_le (L.take (k + 1))
          rw [HE.out, List.length_take] at h3
          have := HN.out
          omega)
        clear he
        go_wp2
        go_roundg (gk - 1)
        case measure => omega
        case rel => exact ⟨k + 1, q, rfl, by simp, by omega, HQL.out, ⟨HE.out, by have := HF.out.1; rw [HE.out] at this; exact this, HF.out.2⟩, rfl⟩
    · have hlt' : ¬ (k : Int) < (N : Int) := by omega
      have HF := Lib.hid (first_none (l := L) (n := n) fun a ha => HR.out.2.2 a (by have := HN.out; omega))
      go_wp2
      go_ret2
      exact ⟨0, .inl ⟨rfl, HF.out, rfl⟩⟩

set_option maxHeartbeats 2000000 in
theorem longest_any (a : Option Addr) (cap : Nat) (L : List Bool) (hl : L.length ≤ 100000) (w : World) (hm : Mp w a cap L) :
    Calls Tryd.prog 7 #[.slice a L.length cap] w fun e w' => e = .returned (.int .i64 (lg L : Int)) ∧ w = w' := by
  have HM := Lib.hid hm
  obtain ⟨N, hN⟩ : ∃ N, L.length = N := ⟨_, rfl⟩
  rw [hN]
  rw [hN] at hl
  have HN := Lib.hid hN
  clear hN hm
  go_enter Tryd.func7, Tryd.ntmps7
  go_wp2
  go_loopg [3, 4, 9] N (fun g vr vm vi wx => ∃ (k r m : Nat), vr = .int .i64 (r : Int) ∧ vm = .int .i64 (m : Int) ∧ vi = .int .i64 (k : Int) ∧ k + g = N ∧ r ≤ N ∧ Hid (tr (L.take k) = r ∧ lg (L.take k) = m) ∧ w = wx)
  case atStart => exact ⟨0, 0, 0, rfl, rfl, rfl, by omega, by omega, ⟨rfl, rfl⟩, rfl⟩
  case round =>
    obtain ⟨k, r, m, rfl, rfl, rfl, hk, hr, HR, rfl⟩ := hrel
    by_cases hlt : k < N
    · have hlt' : (k : Int) < (N : Int) := by omega
      obtain ⟨b, off, x, rfl, hc, htk, _⟩ := HM.out.get (k := k) (by have := HN.out; omega)
      have HT := Lib.hid htk
      clear htk
      have hw : IntKind.i64.wrap ((k : Int) + 1) = (k : Int) + 1 := IntWalk.i64_in _ (by omega)
      go_wp2_with fail
      refine (behind_any r x (by omega) _).mono ?_
      rintro e w2 ⟨rfl, rfl⟩
      obtain ⟨q, hq⟩ : ∃ q, bh r x = q := ⟨_, rfl⟩
      rw [hq]
      have HE := Lib.hid (show tr (L.take (k + 1)) = q by rw [HT.out, tr_snoc, HR.out.1, hq])
      have HL := Lib.hid (show lg (L.take (k + 1)) = max m q by rw [HT.out, lg_snoc, HR.out.1, hq, HR.out.2])
      have HQL := Lib.hid (show q ≤ N by
        have h3 := tr_le (L.take (k + 1))
        rw [HE.out, List.length_take] at h3
        have := HN.out
        omega)
      clear hq hc
      by_cases he : m < q
      · have he' : (m : Int) < (q : Int) := by omega
        go_wp2
        go_roundg (gk - 1)
        case measure => omega
        case rel => exact ⟨k + 1, q, q, rfl, rfl, by simp, by omega, HQL.out, ⟨HE.out, by rw [HL.out]; omega⟩, rfl⟩
      · have he' : ¬ (m : Int) < (q : Int) := by omega
        go_wp2
        go_roundg (gk - 1)
        case measure => omega
        case rel => exact ⟨k + 1, q, m, rfl, rfl, by simp, by omega, HQL.out, ⟨HE.out, by rw [HL.out]; omega⟩, rfl⟩
    · have hlt' : ¬ (k : Int) < (N : Int) := by omega
      have HF := Lib.hid (show lg L = m by have h3 := HR.out.2; rwa [List.take_of_length_le (by have := HN.out; omega)] at h3)
      go_wp2
      go_ret
      exact ⟨by rw [HF.out]; rfl, rfl⟩

set_option maxHeartbeats 2000000 in
theorem free_any (a : Option Addr) (cap : Nat) (L : List Bool) (hl : L.length ≤ 100000) (w : World) (hm : Mp w a cap L) :
    Calls Tryd.prog 5 #[.slice a L.length cap] w fun e w' => e = .returned (.int .i64 (fr L : Int)) ∧ w = w' := by
  have HM := Lib.hid hm
  obtain ⟨N, hN⟩ : ∃ N, L.length = N := ⟨_, rfl⟩
  rw [hN]
  rw [hN] at hl
  have HN := Lib.hid hN
  clear hN hm
  go_enter Tryd.func5, Tryd.ntmps5
  go_wp2
  go_loopg [3, 8] N (fun g vr vi wx => ∃ (k r : Nat), vr = .int .i64 (r : Int) ∧ vi = .int .i64 (k : Int) ∧ k + g = N ∧ r ≤ N ∧ Hid (fr (L.take k) = r) ∧ w = wx)
  case atStart => exact ⟨0, 0, rfl, rfl, by omega, by omega, rfl, rfl⟩
  case round =>
    obtain ⟨k, r, rfl, rfl, hk, hr, HR, rfl⟩ := hrel
    by_cases hlt : k < N
    · have hlt' : (k : Int) < (N : Int) := by omega
      obtain ⟨b, off, x, rfl, hc, htk, _⟩ := HM.out.get (k := k) (by have := HN.out; omega)
      have HT := Lib.hid htk
      clear htk
      have hw : IntKind.i64.wrap ((k : Int) + 1) = (k : Int) + 1 := IntWalk.i64_in _ (by omega)
      have hw2 : IntKind.i64.wrap ((r : Int) + 1) = (r : Int) + 1 := IntWalk.i64_in _ (by omega)
      have HL := Lib.hid (show fr (L.take (k + 1)) = r + if x then 0 else 1 by rw [HT.out, fr_snoc, HR.out])
      have HQL := Lib.hid (show fr (L.take (k + 1)) ≤ N by
        have h3 := fr_le (L.take (k + 1))
        rw [List.length_take] at h3
        have := HN.out
        omega)
      cases x
      · go_wp2
        go_roundg (gk - 1)
        case measure => omega
        case rel => exact ⟨k + 1, r + 1, by simp, by simp, by omega, by have := HL.out; have := HQL.out; simp at *; omega, HL.out, rfl⟩
      · go_wp2
        go_roundg (gk - 1)
        case measure => omega
        case rel => exact ⟨k + 1, r, rfl, by simp, by omega, hr, HL.out, rfl⟩
    · have hlt' : ¬ (k : Int) < (N : Int) := by omega
      have HF := Lib.hid (show fr L = r by have h3 := HR.out; rwa [List.take_of_length_le (by have := HN.out; omega)] at h3)
      go_wp2
      go_ret
      exact ⟨by rw [HF.out]; rfl, rfl⟩
end Go.Proofs.YtjghfecnekgfpaaDoor
