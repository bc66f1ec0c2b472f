/-
  Contracts of the helpers of layer 9's statements: Size and Same of lists of entries. Condition: the lists lie in memory.
-/
import Derived.Test.YtgpipljhpkhffaaDoorEnEq
import Derived.Test.YtgpipljhpkhffaaDoorPc
import Derived.Test.YtgpipljhpkhffaaDoorS8Less
import Derived.Deep.LoopGhost
import Derived.Lib.Hide
import Derived.IntWalk
import Derived.BigQuiet
namespace Go.Proofs.YtgpipljhpkhffaaDoor
open Go.RowKit

/-- A list of entries of a size that is looked at. -/
def SizeOK (l : List Ent) : Prop := l.length ≤ 70 ∧ ∀ e ∈ l, e.1.size ≤ 100 ∧ e.2.2.size ≤ 600
instance (l : List Ent) : Decidable (SizeOK l) := inferInstanceAs (Decidable (_ ∧ _))
def okE (e : Ent) : Prop := e.1.size ≤ 100 ∧ e.2.2.size ≤ 600
theorem take_get {α : Type} (l : List α) (k : Nat) (h : k < l.length) : l.take (k + 1) = l.take k ++ [l[k]] := by
  rw [List.take_add_one, List.getElem?_eq_getElem h]
  rfl
set_option maxRecDepth 10000 in
set_option maxHeartbeats 1000000 in
theorem size9 (l : List Ent) (a : Option Addr) (cap : Nat) (w : World) (h : Ents w a cap l) : Calls Tryd.prog 7 #[.slice a l.length cap] w fun e w' => e = .returned (.int .i64 (if SizeOK l then 1 else 0)) ∧ w = w' := by
  obtain ⟨R, hR⟩ : ∃ R : Int, (if SizeOK l then 1 else 0) = R := ⟨_, rfl⟩
  rw [hR]
  have HR := Lib.hid hR
  clear hR
  by_cases h70 : l.length ≤ 70
  · have HE := Lib.hid h
    have HL := Lib.hid h70
    have g70 : ¬ (70 : Int) < (l.length : Int) := by omega
    clear h
    go_enter Tryd.func7, Tryd.ntmps7
    go_wp2
    go_loopg [3] l.length (fun g i wx => ∃ k : Nat, i = .int .i64 (k : Int) ∧ k + g = l.length ∧ Hid (∀ e ∈ l.take k, okE e) ∧ w = wx)
    case atStart => exact ⟨0, rfl, by omega, by intro e he; simp at he, rfl⟩
    case round =>
      obtain ⟨k, rfl, hk, HI, rfl⟩ := hrel
      by_cases hlt : k < l.length
      · have hlt' : (k : Int) < (l.length : Int) := by omega
        obtain ⟨b, off, rfl, hb, hc⟩ := HE.out.at (Below.refl _ _) hlt
        have HT := Lib.hid (take_get l k hlt)
        have HM := Lib.hid (List.getElem_mem hlt)
        obtain ⟨x, hx⟩ : ∃ x, l[k] = x := ⟨_, rfl⟩
        rw [hx] at hc HT HM
        have c0 := hc.c0
        have c2 := hc.c2
        clear hc hx hb
        by_cases g1 : x.1.size ≤ 100
        · have g1' : ¬ (100 : Int) < (x.1.size : Int) := by omega
          by_cases g2 : x.2.2.size ≤ 600
          · have g2' : ¬ (600 : Int) < (x.2.2.size : Int) := by omega
            have HX := Lib.hid (show okE x from ⟨g1, g2⟩)
            clear g1 g2
            go_wp2
            go_roundg (gk - 1)
            case measure => omega
            case rel =>
              refine ⟨k + 1, by simp, by omega, ?_, rfl⟩
              intro e he
              rw [HT.out] at he
              rcases List.mem_append.1 he with he | he
              · exact HI.out e he
              · obtain rfl : e = x := by simpa using he
                exact HX.out
          · have g2' : (600 : Int) < (x.2.2.size : Int) := by omega
            have HX := Lib.hid (show R = 0 by rw [← HR.out, if_neg fun h => g2 (h.2 x HM.out).2])
            clear g1 g2
            go_wp2
            go_ret
            exact ⟨by rw [HX.out]; rfl, rfl⟩
        · have g1' : (100 : Int) < (x.1.size : Int) := by omega
          have HX := Lib.hid (show R = 0 by rw [← HR.out, if_neg fun h => g1 (h.2 x HM.out).1])
          clear g1
          go_wp2
          go_ret
          exact ⟨by rw [HX.out]; rfl, rfl⟩
      · have hlt' : ¬ (k : Int) < (l.length : Int) := by omega
        have HX := Lib.hid (show R = 1 by rw [← HR.out, if_pos ⟨HL.out, fun e he => HI.out e (by rw [List.take_of_length_le (by omega)]; exact he)⟩])
        go_wp2
        go_ret
        exact ⟨by rw [HX.out]; rfl, rfl⟩
  · have g70 : (70 : Int) < (l.length : Int) := by omega
    have HX := Lib.hid (show R = 0 by rw [← HR.out, if_neg fun h => h70 h.1])
    clear h h70
    go_enter Tryd.func7, Tryd.ntmps7
    go_wp2
    go_ret
    exact ⟨by rw [HX.out]; rfl, rfl⟩
attribute [local go_sem ↓] qne_en qeq_en
attribute [local go_sem] isEv_agg evEq_agg eta_ent
theorem take_eq {α : Type} (l m : List α) (k : Nat) (h : k < l.length) (h2 : k < m.length) : l.take (k + 1) = m.take (k + 1) ↔ l.take k = m.take k ∧ l[k] = m[k] := by
  rw [take_get l k h, take_get m k h2]
  constructor
  · intro e
    obtain ⟨e1, e2⟩ := List.append_inj' e rfl
    exact ⟨e1, by simpa using e2⟩
  · rintro ⟨e1, e2⟩
    rw [e1, e2]
set_option maxRecDepth 10000 in
set_option maxHeartbeats 1000000 in
theorem same9 (l m : List Ent) (a a2 : Option Addr) (cap cap2 : Nat) (w : World) (h : Ents w a cap l) (h2 : Ents w a2 cap2 m) (hz : l.length ≤ maxLen) : Calls Tryd.prog 15 #[.slice a l.length cap, .slice a2 m.length cap2] w fun e w' => e = .returned (.int .i64 (if l = m then 1 else 0)) ∧ Below w.heap.size w w' := by
  obtain ⟨R, hR⟩ : ∃ R : Int, (if l = m then 1 else 0) = R := ⟨_, rfl⟩
  rw [hR]
  have HR := Lib.hid hR
  clear hR
  by_cases hl : l.length = m.length
  · have HE := Lib.hid h
    have HE2 := Lib.hid h2
    have HL := Lib.hid hl
    have HZ := Lib.hid hz
    have gl : ((l.length : Int) != (m.length : Int)) = false := by rw [hl]; simp
    clear h h2 hl hz
    go_enter Tryd.func15, Tryd.ntmps15
    go_wp2
    go_loopg [5] l.length (fun g i wx => ∃ k : Nat, i = .int .i64 (k : Int) ∧ k + g = l.length ∧ Hid (l.take k = m.take k) ∧ Hid (Below w.heap.size w wx))
    case atStart => exact ⟨0, rfl, by omega, by simp [Hid], Below.refl _ _⟩
    case round =>
      obtain ⟨k, rfl, hk, HI, HB⟩ := hrel
      by_cases hlt : k < l.length
      · have hlt' : (k : Int) < (l.length : Int) := by omega
        have hlt2 : (k : Int) < (m.length : Int) := by have := HL.out; omega
        obtain ⟨b, off, rfl, hb, hc⟩ := HE.out.at HB.out hlt
        obtain ⟨b2, off2, rfl, hb2, hc2⟩ := HE2.out.at HB.out (show k < m.length by omega)
        have HT := Lib.hid (take_eq l m k hlt (by omega))
        have hw : IntKind.i64.wrap ((k : Int) + 1) = (k : Int) + 1 := IntWalk.i64_in _ (by have := HZ.out; unfold maxLen at this; omega)
        obtain ⟨x, hx⟩ : ∃ x, l[k] = x := ⟨_, rfl⟩
        obtain ⟨y, hy⟩ : ∃ y, m[k]'(by omega) = y := ⟨_, rfl⟩
        rw [hx] at hc
        rw [hy] at hc2
        have HXY := Lib.hid (And.intro hx hy)
        have c0 := hc.c0
        have c1 := hc.c1
        have c2 := hc.c2
        have d0 := hc2.c0
        have d1 := hc2.c1
        have d2 := hc2.c2
        clear hc hc2 hx hy hb hb2
        by_cases hxy : x = y
        · have gxy : decide (x = y) = true := decide_eq_true hxy
          have HN := Lib.hid (show l.take (k + 1) = m.take (k + 1) from HT.out.2 ⟨HI.out, by rw [HXY.out.1, HXY.out.2]; exact hxy⟩)
          clear hxy
          go_wp2
          go_quiet (fail)
          go_wp2
          go_roundg (gk - 1)
          case measure => omega
          case rel => exact ⟨k + 1, by simp, by omega, HN.out, below_drewX HB.out _⟩
        · have gxy : decide (x = y) = false := decide_eq_false hxy
          have HX := Lib.hid (show R = 0 by
            rw [← HR.out, if_neg fun e => hxy ?_]
            subst e
            exact HXY.out.1.symm.trans HXY.out.2)
          clear hxy
          go_wp2
          go_quiet (fail)
          go_wp2
          go_ret
          exact ⟨by rw [HX.out]; rfl, below_drewX HB.out _⟩
      · have hlt' : ¬ (k : Int) < (l.length : Int) := by omega
        have HX := Lib.hid (show R = 1 by
          have := HI.out
          rw [List.take_of_length_le (by omega), List.take_of_length_le (by have := HL.out; omega)] at this
          rw [← HR.out, if_pos this])
        go_wp2
        go_ret
        exact ⟨by rw [HX.out]; rfl, HB.out⟩
  · have gl : ((l.length : Int) != (m.length : Int)) = true := by rw [bne_iff_ne]; omega
    have HX := Lib.hid (show R = 0 by rw [← HR.out, if_neg fun h => hl (by rw [h])])
    clear h h2 hl hz
    go_enter Tryd.func15, Tryd.ntmps15
    go_wp2
    go_ret
    exact ⟨by rw [HX.out]; rfl, Below.refl _ _⟩
end Go.Proofs.YtgpipljhpkhffaaDoor
