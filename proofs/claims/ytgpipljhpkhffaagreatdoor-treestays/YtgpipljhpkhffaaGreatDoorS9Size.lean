/-
  Contracts of the helpers of layer 9's statements: Size and Same of lists of entries. Condition: the lists lie in memory.
-/
import Derived.Test.YtgpipljhpkhffaaGreatDoorEnEq
import Derived.Test.YtgpipljhpkhffaaGreatDoorPc
import Derived.Test.YtgpipljhpkhffaaGreatDoorS8Less
import Derived.Deep.LoopGhost
import Derived.Lib.Hide
import Derived.IntWalk
import Derived.BigQuiet
namespace Go.Proofs.YtgpipljhpkhffaaGreatDoor
open Go.RowKit

/-- A list of entries of a size that is looked at. -/
def SizeOK (l : List Ent) : Prop := l.length ≤ 70 ∧ ∀ e ∈ l, e.1.size ≤ 100 ∧ e.2.2.size ≤ 600
instance (l : List Ent) : Decidable (SizeOK l) := inferInstanceAs (Decidable (_ ∧ _))
def okE (e : Ent) : Prop := e.1.size ≤ 100 ∧ e.2.2.size ≤ 600
theorem take_get {α : Type} (l : List α) (k : Nat) (h : k < l.length) : l.take (k + 1) = l.take k ++ [l[k]] := by
  rw [List.take_add_one, List.getElem?_eq_getElem h]
  rfl
set_option maxRecDepth 10000 in
set_option maxHeartbeats 1000000 in
theorem size9 (l : List Ent) (a : Option Addr) (cap : Nat) (w : World) (h : Ents w a cap l) : Calls Tryz.prog 5 #[.slice a l.length cap] w fun e w' => e = .returned (.int .i64 (if SizeOK l then 1 else 0)) ∧ w = w' := by
  obtain ⟨R, hR⟩ : ∃ R : Int, (if SizeOK l then 1 else 0) = R := ⟨_, rfl⟩
  rw [hR]
  have HR := Lib.hid hR
  clear hR
  by_cases h70 : l.length ≤ 70
  · have HE := Lib.hid h
    have HL := Lib.hid h70
    have g70 : ¬ (70 : Int) < (l.length : Int) := by omega
    clear h
    go_enter Tryz.func5, Tryz.ntmps5
    go_wp2
    go_loopg [3] l.length (fun g i wx => ∃ k : Nat, i = .int .i64 (k : Int) ∧ k + g = l.length ∧ Hid (∀ e ∈ l.take k, okE e) ∧ w = wx)
    case atStart => exact ⟨0, rfl, by omega, by intro e he; simp at he, rfl⟩
    case round =>
      obtain ⟨k, rfl, hk, HI, rfl⟩ := hrel
      by_cases hlt : k < l.length
      · have hlt' : (k : Int) < (l.length : Int) := by omega
        obtain ⟨b, off, rfl, hb, hc⟩ := HE.out.at (Below.refl _ _) hlt
        have HT := Lib.hid (take_get l k hlt)
        have HM := Lib.hid (List.getElem_mem hlt)
        obtain ⟨x, hx⟩ : ∃ x, l[k] = x := ⟨_, rfl⟩
        rw [hx] at hc HT HM
        have c0 := hc.c0
        have c2 := hc.c2
        clear hc hx hb
        by_cases g1 : x.1.size ≤ 100
        · have g1' : ¬ (100 : Int) < (x.1.size : Int) := by omega
          by_cases g2 : x.2.2.size ≤ 600
          · have g2' : ¬ (600 : Int) < (x.2.2.size : Int) := by omega
            have HX := Lib.hid (show okE x from ⟨g1, g2⟩)
            clear g1 g2
            go_wp2
            go_roundg (gk - 1)
            case measure => omega
            case rel =>
              refine ⟨k + 1, by simp, by omega, ?_, rfl⟩
              intro e he
              rw [HT.out] at he
              rcases List.mem_append.1 he with he | he
              · exact HI.out e he
              · obtain rfl : e = x := by simpa using he
                exact HX.out
          · have g2' : (600 : Int) < (x.2.2.size : Int) := by omega
            have HX := Lib.hid (show R = 0 by rw [← HR.out, if_neg fun h => g2 (h.2 x HM.out).2])
            clear g1 g2
            go_wp2
            go_ret
            exact ⟨by rw [HX.out]; rfl, rfl⟩
        · have g1' : (100 : Int) < (x.1.size : Int) := by omega
          have HX := Lib.hid (show R = 0 by rw [← HR.out, if_neg fun h => g1 (h.2 x HM.out).1])
          clear g1
          go_wp2
          go_ret
          exact ⟨by rw [HX.out]; rfl, rfl⟩
      · have hlt' : ¬ (k : Int) < (l.length : Int) := by omega
        have HX := Lib.hid (show R = 1 by rw [← HR.out, if_pos ⟨HL.out, fun e he => HI.out e (by rw [List.take_of_length_le (by omega)]; exact he)⟩])
        go_wp2
        go_ret
        exact ⟨by rw [HX.out]; rfl, rfl⟩
  · have g70 : (70 : Int) < (l.length : Int) := by omega
    have HX := Lib.hid (show R = 0 by rw [← HR.out, if_neg fun h => h70 h.1])
    clear h h70
    go_enter Tryz.func5, Tryz.ntmps5
    go_wp2
    go_ret
    exact ⟨by rw [HX.out]; rfl, rfl⟩
attribute [local go_sem ↓] qne_en qeq_en
attribute [local go_sem] isEv_agg evEq_agg eta_ent
theorem take_eq {α : Type} (l m : List α) (k : Nat) (h : k < l.length) (h2 : k < m.length) : l.take (k + 1) = m.take (k + 1) ↔ l.take k = m.take k ∧ l[k] = m[k] := by
  rw [take_get l k h, take_get m k h2]
  constructor
  · intro e
    obtain ⟨e1, e2⟩ := List.append_inj' e rfl
    exact ⟨e1, by simpa using e2⟩
  · rintro ⟨e1, e2⟩
    rw [e1, e2]
end Go.Proofs.YtgpipljhpkhffaaGreatDoor
