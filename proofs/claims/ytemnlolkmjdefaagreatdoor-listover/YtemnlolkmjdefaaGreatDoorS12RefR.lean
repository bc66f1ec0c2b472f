/-
  The contract of the document's own Right of a stack (package shaleref12). Conditions: a stack in memory, of at most 100 layers, each of at most 1000 entries whose texts have at most 100000 bytes.
-/
import Derived.Test.YtemnlolkmjdefaaGreatDoorS9RefR
import Derived.Test.YtemnlolkmjdefaaGreatDoorPc
namespace Go.Proofs.YtemnlolkmjdefaaGreatDoor
open Go.RowKit

set_option maxRecDepth 10000 in
set_option maxHeartbeats 2000000 in
theorem refRight12 (S : List (List Ent)) (a : Option Addr) (cap : Nat) (w : World) (h : Stk w a cap S) (hS : S.length ≤ 100) (hs : ∀ l ∈ S, Sm l) :
    Calls Tryz.prog 13 #[.slice a S.length cap] w fun e w' => e = .returned (.bool (decide (S.length ≤ 9 ∧ ∀ l ∈ S, RightL l))) ∧ Below w.heap.size w w' := by
  have HE := Lib.hid h
  have HL := Lib.hid hS
  have HSM := Lib.hid hs
  obtain ⟨r, hr⟩ : ∃ r, decide (S.length ≤ 9 ∧ ∀ l ∈ S, RightL l) = r := ⟨_, rfl⟩
  rw [hr]
  have HR := Lib.hid hr
  clear h hS hs hr
  go_enter Tryz.func13, Tryz.ntmps13
  go_wp2
  go_loopg [3] S.length (fun g i wx => ∃ k : Nat, i = .int .i64 (k : Int) ∧ k + g = S.length ∧ Hid (∀ l ∈ S.take k, RightL l) ∧ Hid (Below w.heap.size w wx))
  case atStart => exact ⟨0, rfl, by omega, by simp [Hid], Below.refl _ _⟩
  case round =>
    obtain ⟨k, rfl, hk, HI, HB⟩ := hrel
    have hw : IntKind.i64.wrap ((k : Int) + 1) = (k : Int) + 1 := IntWalk.i64_in _ (by have := HL.out; omega)
    by_cases hlt : k < S.length
    · have hlt' : (k : Int) < (S.length : Int) := by omega
      obtain ⟨b, off, a', cap', rfl, hc, hE⟩ := Stk.at HE.out HB.out hlt
      have HT := Lib.hid (take_get S k hlt)
      have HM := Lib.hid (List.getElem_mem hlt)
      obtain ⟨x, hx⟩ : ∃ x, S[k] = x := ⟨_, rfl⟩
      rw [hx] at hc hE HT HM
      have HX := Lib.hid (HSM.out x HM.out)
      have HC := Lib.hid (refRight9 x a' cap' wr hE HX.out.1 fun e he => (HX.out.2 e he).1)
      clear hE hx
      by_cases hq : RightL x
      · rw [decide_eq_true hq] at HC
        have HN := Lib.hid (show ∀ l ∈ S.take (k + 1), RightL l from fun l hl => by
          rw [HT.out] at hl
          rcases List.mem_append.1 hl with hl | hl
          · exact HI.out l hl
          · obtain rfl : l = x := by simpa using hl
            exact hq)
        clear hq
        go_wp2_with fail
        refine (HC.out).mono ?_
        rintro e w1 ⟨rfl, hb⟩
        have HB1 := Lib.hid (HB.out.trans (hb.mono HB.out.size))
        clear hb
        go_wp2
        go_roundg (gk - 1)
        case measure => omega
        case rel => exact ⟨k + 1, by simp, by omega, HN.out, HB1.out⟩
      · rw [decide_eq_false hq] at HC
        have HV := Lib.hid (show r = false by rw [← HR.out]; exact decide_eq_false fun h => hq (h.2 x HM.out))
        clear hq
        go_wp2_with fail
        refine (HC.out).mono ?_
        rintro e w1 ⟨rfl, hb⟩
        have HB1 := Lib.hid (HB.out.trans (hb.mono HB.out.size))
        clear hb
        go_wp2
        go_ret
        exact ⟨by rw [HV.out]; rfl, HB1.out⟩
    · have hlt' : ¬ (k : Int) < (S.length : Int) := by omega
      have HV := Lib.hid (show decide ((S.length : Int) ≤ 9) = r by
        rw [← HR.out]
        have := HI.out
        rw [List.take_of_length_le (by omega)] at this
        by_cases h9 : S.length ≤ 9
        · rw [show decide ((S.length : Int) ≤ 9) = true from decide_eq_true (by omega)]
          exact (decide_eq_true ⟨h9, this⟩).symm
        · rw [show decide ((S.length : Int) ≤ 9) = false from decide_eq_false (by omega)]
          exact (decide_eq_false fun h => h9 h.1).symm)
      go_wp2
      go_ret
      exact ⟨by rw [← HV.out]; rfl, HB.out⟩
end Go.Proofs.YtemnlolkmjdefaaGreatDoor
