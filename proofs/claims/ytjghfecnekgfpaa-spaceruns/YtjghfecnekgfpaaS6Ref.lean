/-
  Contracts of the document's own answers for layer 6 (package shaleref06): Run, First. Condition: the map has no more than 100000 places.
-/
import Derived.Test.YtjghfecnekgfpaaS6Space
namespace Go.Proofs.Ytjghfecnekgfpaa
open Go.RowKit

noncomputable def runB (l : List Bool) (a n : Nat) : Bool := @decide (isRun l a n) (Classical.propDecidable _)
theorem runB_true {l : List Bool} {a n : Nat} (h : isRun l a n) : runB l a n = true := by simp [runB, h]
theorem runB_false {l : List Bool} {a n : Nat} (h : ¬ isRun l a n) : runB l a n = false := by simp [runB, h]

set_option maxHeartbeats 2000000 in
theorem run_any (a : Option Addr) (cap : Nat) (L : List Bool) (i n : Nat) (hl : L.length ≤ 100000) (hi : i ≤ 100000) (hn : n ≤ 100000) (w : World) (hm : Mp w a cap L) :
    Calls Try.prog 12 #[.slice a L.length cap, .int .i64 (i : Int), .int .i64 (n : Int)] w fun e w' => e = .returned (.bool (runB L i n)) ∧ w = w' := by
  have HM := Lib.hid hm
  obtain ⟨N, hN⟩ : ∃ N, L.length = N := ⟨_, rfl⟩
  rw [hN]
  rw [hN] at hl
  have HN := Lib.hid hN
  clear hN hm
  have hw0 : IntKind.i64.wrap ((i : Int) + (n : Int)) = ((i + n : Nat) : Int) := by
    rw [show (i : Int) + (n : Int) = ((i + n : Nat) : Int) by omega]
    exact IntWalk.i64_in _ (by omega)
  obtain ⟨M, hM⟩ : ∃ M, i + n = M := ⟨_, rfl⟩
  rw [hM] at hw0
  by_cases h1 : N < M
  · have h1' : (N : Int) < (M : Int) := by omega
    have HF := Lib.hid (runB_false (l := L) (a := i) (n := n) fun h => by have := h.1; have := HN.out; omega)
    go_enter Try.func12, Try.ntmps12
    go_wp2
    go_ret
    exact ⟨by rw [HF.out]; rfl, rfl⟩
  · have h1' : ¬ (N : Int) < (M : Int) := by omega
    have HM0 := Lib.hid hM
    clear hM
    go_enter Try.func12, Try.ntmps12
    go_wp2
    go_loopg [7] n (fun g vi wx => ∃ (k : Nat), vi = .int .i64 (k : Int) ∧ k + g = M ∧ i ≤ k ∧ Hid (∀ j, i ≤ j → j < k → L[j]? = some false) ∧ w = wx)
    case atStart => exact ⟨i, rfl, HM0.out, Nat.le_refl _, fun j h2 h3 => by omega, rfl⟩
    case round =>
      obtain ⟨k, rfl, hk, hik, HR, rfl⟩ := hrel
      by_cases hlt : k < M
      · have hlt' : (k : Int) < (M : Int) := by omega
        have hlt2 : (k : Int) < (N : Int) := by omega
        obtain ⟨b, off, x, rfl, hc, _, hx⟩ := HM.out.get (k := k) (by have := HN.out; omega)
        have HX := Lib.hid hx
        clear hx
        have hw : IntKind.i64.wrap ((k : Int) + 1) = (k : Int) + 1 := IntWalk.i64_in _ (by omega)
        cases x
        · have HR2 := Lib.hid (show ∀ j, i ≤ j → j < k + 1 → L[j]? = some false from fun j h2 h3 => by
            by_cases h4 : j = k
            · rw [h4]; exact HX.out
            · exact HR.out j h2 (by omega))
          go_wp2
          go_roundg (gk - 1)
          case measure => omega
          case rel => exact ⟨k + 1, by simp, by omega, by omega, HR2.out, rfl⟩
        · have HF := Lib.hid (runB_false (l := L) (a := i) (n := n) fun h => by
            have h3 := h.2 (k - i) (by have := HM0.out; omega)
            rw [show i + (k - i) = k by omega, HX.out] at h3
            cases h3)
          go_wp2
          go_ret
          exact ⟨by rw [HF.out]; rfl, rfl⟩
      · have hlt' : ¬ (k : Int) < (M : Int) := by omega
        have HF := Lib.hid (runB_true (l := L) (a := i) (n := n) ⟨by have := HN.out; have := HM0.out; omega, fun j hj => HR.out (i + j) (by omega) (by have := HM0.out; omega)⟩)
        go_wp2
        go_ret
        exact ⟨by rw [HF.out]; rfl, rfl⟩

/-- What the document's own First answers. -/
def RFirstIs (l : List Bool) (n : Nat) (z : Int) : Prop := (∃ at_ : Nat, z = (at_ : Int) ∧ FirstIs l n at_ true) ∨ (z = -1 ∧ FirstIs l n 0 false)

set_option maxHeartbeats 2000000 in
theorem rfirst_any (a : Option Addr) (cap : Nat) (L : List Bool) (n : Nat) (hn : 1 ≤ n) (hl : L.length ≤ 100000) (w : World) (hm : Mp w a cap L) :
    Calls Try.prog 9 #[.slice a L.length cap, .int .i64 (n : Int)] w fun e w' => ∃ z, e = .returned (.int .i64 z) ∧ RFirstIs L n z ∧ w = w' := by
  have HM := Lib.hid hm
  have hM := Lib.hid (fun i hi hn' => run_any a cap L i n hl hi hn' w hm)
  obtain ⟨N, hN⟩ : ∃ N, L.length = N := ⟨_, rfl⟩
  rw [hN]
  rw [hN] at hl
  have HC := Lib.hid (fun i hi hn' => by have := hM.out i hi hn'; rw [hN] at this; exact this)
  have HN := Lib.hid hN
  have HN1 := Lib.hid hn
  clear hN hm hM hn
  go_enter Try.func9, Try.ntmps9
  go_wp2
  go_loopg [5] N (fun g vi wx => ∃ (k : Nat), vi = .int .i64 (k : Int) ∧ k + g = N ∧ Hid (∀ j, j < k → ¬ isRun L j n) ∧ w = wx)
  case atStart => exact ⟨0, rfl, by omega, fun j hj => by omega, rfl⟩
  case round =>
    obtain ⟨k, rfl, hk, HR, rfl⟩ := hrel
    by_cases hlt : k < N
    · have hlt' : (k : Int) < (N : Int) := by omega
      have hw : IntKind.i64.wrap ((k : Int) + 1) = (k : Int) + 1 := IntWalk.i64_in _ (by omega)
      by_cases hnn : n ≤ N
      · have hn' : (n : Int) ≤ (N : Int) := by omega
        go_wp2_with fail
        refine (HC.out k (by omega) (by omega)).mono ?_
        rintro e w2 ⟨rfl, rfl⟩
        by_cases hr : isRun L k n
        · rw [runB_true hr]
          have HF := Lib.hid (show FirstIs L n k true from .inl ⟨rfl, hr, HR.out⟩)
          clear hr
          go_wp2
          go_ret
          exact ⟨_, rfl, .inl ⟨k, rfl, HF.out⟩, rfl⟩
        · rw [runB_false hr]
          have HR2 := Lib.hid (show ∀ j, j < k + 1 → ¬ isRun L j n from fun j hj => by
            by_cases h4 : j = k
            · rw [h4]; exact hr
            · exact HR.out j (by omega))
          clear hr
          go_wp2
          go_roundg (gk - 1)
          case measure => omega
          case rel => exact ⟨k + 1, by simp, by omega, HR2.out, rfl⟩
      · have hn' : ¬ (n : Int) ≤ (N : Int) := by omega
        have HR2 := Lib.hid (show ∀ j, j < k + 1 → ¬ isRun L j n from fun j hj h => by have := h.1; have := HN.out; omega)
        go_wp2
        go_roundg (gk - 1)
        case measure => omega
        case rel => exact ⟨k + 1, by simp, by omega, HR2.out, rfl⟩
    · have hlt' : ¬ (k : Int) < (N : Int) := by omega
      have HF := Lib.hid (first_none (l := L) (n := n) fun a ha => HR.out a (by have := HN.out; have := HN1.out; omega))
      go_wp2
      go_ret
      exact ⟨_, rfl, .inr ⟨rfl, HF.out⟩, rfl⟩
end Go.Proofs.Ytjghfecnekgfpaa
