/-
  'Few' of layer 10's statements: a stack of a size that is looked at. Condition: the stack lies in memory.
-/
import Derived.Test.YtlnjbadbpddlmaaGreatDoorPc
import Derived.Test.YtlnjbadbpddlmaaGreatDoorPb
namespace Go.Proofs.YtlnjbadbpddlmaaGreatDoor
open Go.RowKit

/-- A stack of a size that is looked at. -/
def FewOK (S : List (List Ent)) : Prop := S.length ≤ 12 ∧ ∀ l ∈ S, SizeOK l
instance (S : List (List Ent)) : Decidable (FewOK S) := inferInstanceAs (Decidable (_ ∧ _))
set_option maxRecDepth 10000 in
set_option maxHeartbeats 1000000 in
theorem few10 (S : List (List Ent)) (a : Option Addr) (cap : Nat) (w : World) (h : Stk w a cap S) : Calls Tryz.prog 5 #[.slice a S.length cap] w fun e w' => e = .returned (.int .i64 (if FewOK S then 1 else 0)) ∧ w = w' := by
  obtain ⟨R, hR⟩ : ∃ R : Int, (if FewOK S then 1 else 0) = R := ⟨_, rfl⟩
  rw [hR]
  have HR := Lib.hid hR
  clear hR
  by_cases h12 : S.length ≤ 12
  · have HE := Lib.hid h
    have HL := Lib.hid h12
    have g12 : ¬ (12 : Int) < (S.length : Int) := by omega
    clear h
    go_enter Tryz.func5, Tryz.ntmps5
    go_wp2
    go_loopg [3] S.length (fun g i wx => ∃ k : Nat, i = .int .i64 (k : Int) ∧ k + g = S.length ∧ Hid (∀ l ∈ S.take k, SizeOK l) ∧ w = wx)
    case atStart => exact ⟨0, rfl, by omega, by intro e he; simp at he, rfl⟩
    case round =>
      obtain ⟨k, rfl, hk, HI, rfl⟩ := hrel
      by_cases hlt : k < S.length
      · have hlt' : (k : Int) < (S.length : Int) := by omega
        obtain ⟨b, off, a', cap', rfl, hc, hE⟩ := HE.out.at (Below.refl _ _) hlt
        have HT := Lib.hid (take_get S k hlt)
        have HM := Lib.hid (List.getElem_mem hlt)
        obtain ⟨x, hx⟩ : ∃ x, S[k] = x := ⟨_, rfl⟩
        rw [hx] at hc hE HT HM
        have HEx := Lib.hid hE
        clear hx hE
        go_wp2_with fail
        refine (size9 x a' cap' _ HEx.out).mono ?_
        rintro e w1 ⟨rfl, rfl⟩
        by_cases hz : SizeOK x
        · rw [if_pos hz]
          have HX := Lib.hid hz
          clear hz
          go_wp2
          go_roundg (gk - 1)
          case measure => omega
          case rel =>
            refine ⟨k + 1, by simp, by omega, ?_, rfl⟩
            intro e he
            rw [HT.out] at he
            rcases List.mem_append.1 he with he | he
            · exact HI.out e he
            · obtain rfl : e = x := by simpa using he
              exact HX.out
        · rw [if_neg hz]
          have HX := Lib.hid (show R = 0 by rw [← HR.out, if_neg fun h => hz (h.2 x HM.out)])
          clear hz
          go_wp2
          go_ret
          exact ⟨by rw [HX.out]; rfl, rfl⟩
      · have hlt' : ¬ (k : Int) < (S.length : Int) := by omega
        have HX := Lib.hid (show R = 1 by rw [← HR.out, if_pos ⟨HL.out, fun e he => HI.out e (by rw [List.take_of_length_le (by omega)]; exact he)⟩])
        go_wp2
        go_ret
        exact ⟨by rw [HX.out]; rfl, rfl⟩
  · have g12 : (12 : Int) < (S.length : Int) := by omega
    have HX := Lib.hid (show R = 0 by rw [← HR.out, if_neg fun h => h12 h.1])
    clear h h12
    go_enter Tryz.func5, Tryz.ntmps5
    go_wp2
    go_ret
    exact ⟨by rw [HX.out]; rfl, rfl⟩
end Go.Proofs.YtlnjbadbpddlmaaGreatDoor
