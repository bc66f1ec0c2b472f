/-
  Contracts of the document's own Kind and Data of a tree (package shaleref11), Right and At of a stack (package shaleref12). Conditions: lists in memory, of at most 1000 entries; layers: of at most 1000 entries whose texts have at most 100000 bytes, at most twelve; At: right layers, at most nine.
-/
import Derived.Test.YtemnlolkmjdefaaGreatDoorPb
import Derived.Test.YtemnlolkmjdefaaGreatDoorS12RefR
import Derived.Test.YtemnlolkmjdefaaGreatDoorS9Par
import Derived.Test.YtemnlolkmjdefaaGreatDoorPc
import Derived.Test.YtemnlolkmjdefaaGreatDoorS10Stk
namespace Go.Proofs.YtemnlolkmjdefaaGreatDoor
open Go.RowKit

theorem fnd_snoc12 {t : List Ent} {p : List UInt8} {k : Nat} (hk : k < t.length) (h : fnd (t.take k) p = none) (hx : pl t[k] = p) : fnd t p = some t[k] := by
  have e : t = t.take k ++ t[k] :: t.drop (k + 1) := by rw [List.getElem_cons_drop, List.take_append_drop]
  have e2 : fnd t p = (t.take k ++ t[k] :: t.drop (k + 1)).find? fun e => decide (pl e = p) := congrArg (fun z => List.find? (fun e => decide (pl e = p)) z) e
  rw [e2, List.find?_append, show List.find? (fun e => decide (pl e = p)) (t.take k) = none from h, List.find?_cons_of_pos (by simpa using hx)]
  rfl
theorem fnd_more12 {t : List Ent} {p : List UInt8} {k : Nat} (hk : k < t.length) (h : fnd (t.take k) p = none) (hx : pl t[k] ≠ p) : fnd (t.take (k + 1)) p = none := by
  rw [take_get t k hk]
  unfold fnd at h ⊢
  rw [List.find?_append, h]
  simp [hx]
theorem kd_bad12 {t : List Ent} {p : List UInt8} (h : ¬ isP p) : kdV t p = (2, 0) := if_pos h
theorem kd_root12 {t : List Ent} {p : List UInt8} (h1 : isP p) (h : p = [47]) : kdV t p = (0, 2) := by unfold kdV; rw [if_neg (not_not_intro h1), if_pos h]
theorem kd_none12 {t : List Ent} {p : List UInt8} (h1 : isP p) (h : p ≠ [47]) (hf : fnd t p = none) : kdV t p = (3, 0) := by unfold kdV; rw [if_neg (not_not_intro h1), if_neg h, hf]
theorem kd_some12 {t : List Ent} {p : List UInt8} {e : Ent} (h1 : isP p) (h : p ≠ [47]) (hf : fnd t p = some e) : kdV t p = (0, e.2.1) := by unfold kdV; rw [if_neg (not_not_intro h1), if_neg h, hf]
theorem dat_none12 {t : List Ent} {p : List UInt8} (hf : fnd t p = none) : datV t p = ⟨#[]⟩ := by unfold datV; rw [hf]
theorem dat_some12 {t : List Ent} {p : List UInt8} {e : Ent} (hf : fnd t p = some e) : datV t p = e.2.2 := by unfold datV; rw [hf]
set_option maxRecDepth 10000 in
set_option maxHeartbeats 2000000 in
theorem refKind12 (t : List Ent) (a : Option Addr) (cap : Nat) (p : ByteArray) (w : World) (h : Ents w a cap t) (hl : t.length ≤ 1000) (hp : p.size ≤ 100000) :
    Calls Tryz.prog 57 #[.slice a t.length cap, .string p] w fun e w' => e = .returned (.tuple #[.int .i64 (kdV t p.data.toList).2, .int .i64 (kdV t p.data.toList).1]) ∧ Below w.heap.size w w' := by
  have HE := Lib.hid h
  have HC := Lib.hid (refSplit_any p hp w)
  have HL := Lib.hid hl
  obtain ⟨r, hr⟩ : ∃ r, kdV t p.data.toList = r := ⟨_, rfl⟩
  rw [hr]
  have HR := Lib.hid hr
  clear h hl hp hr
  by_cases h1 : isP p.data.toList
  · rw [decide_eq_true h1] at HC
    have HP := Lib.hid h1
    clear h1
    by_cases h2 : p.data.toList = [47]
    · have HV := Lib.hid (show r = (0, 2) by rw [← HR.out]; exact kd_root12 HP.out h2)
      have g2 : (p.toList == [47]) = true := by rw [Lib.toList_data, beq_iff_eq]; exact h2
      clear h2
      go_enter Tryz.func57, Tryz.ntmps57
      go_wp2_with fail
      refine (HC.out).mono ?_
      rintro e w1 ⟨_, _, rfl, _, hb⟩
      have HB := Lib.hid hb
      clear hb
      go_wp2
      go_ret2
      exact ⟨by rw [HV.out]; rfl, HB.out⟩
    · have HNE := Lib.hid h2
      have g2 : (p.toList == [47]) = false := by rw [Lib.toList_data, beq_eq_false_iff_ne]; exact h2
      clear h2
      go_enter Tryz.func57, Tryz.ntmps57
      go_wp2_with fail
      refine (HC.out).mono ?_
      rintro e w1 ⟨_, _, rfl, _, hb⟩
      have HB := Lib.hid hb
      have HE1 := Lib.hid (RowN.below HE.out hb)
      clear hb
      go_wp2
      go_loopg [8] t.length (fun g i wx => ∃ k : Nat, i = .int .i64 (k : Int) ∧ k + g = t.length ∧ Hid (fnd (t.take k) p.data.toList = none) ∧ w1 = wx)
      case atStart => exact ⟨0, rfl, by omega, by simp [Hid, fnd], rfl⟩
      case round =>
        obtain ⟨k, rfl, hk, HI, rfl⟩ := hrel
        have hw : IntKind.i64.wrap ((k : Int) + 1) = (k : Int) + 1 := IntWalk.i64_in _ (by have := HL.out; omega)
        by_cases hlt : k < t.length
        · have hlt' : (k : Int) < (t.length : Int) := by omega
          obtain ⟨b, off, rfl, _, hc⟩ := Ents.at HE1.out (Below.refl _ _) hlt
          have HS := Lib.hid (fun h => fnd_snoc12 hlt HI.out (p := p.data.toList) h)
          have HM := Lib.hid (fun h => fnd_more12 hlt HI.out (p := p.data.toList) h)
          obtain ⟨x, hx⟩ : ∃ x, t[k] = x := ⟨_, rfl⟩
          rw [hx] at hc HS HM
          have c0 := hc.c0
          have c1 := hc.c1
          clear hc hx
          by_cases hq : pl x = p.data.toList
          · have g1 : (x.1.toList == p.toList) = true := by rw [Lib.toList_data, Lib.toList_data, beq_iff_eq]; exact hq
            have HV := Lib.hid (show r = (0, x.2.1) by rw [← HR.out]; exact kd_some12 HP.out HNE.out (HS.out hq))
            clear hq
            go_wp2
            go_ret2
            exact ⟨by rw [HV.out]; rfl, HB.out⟩
          · have g1 : (x.1.toList == p.toList) = false := by rw [Lib.toList_data, Lib.toList_data, beq_eq_false_iff_ne]; exact hq
            have HN := Lib.hid (HM.out hq)
            clear hq
            go_wp2
            go_roundg (gk - 1)
            case measure => omega
            case rel => exact ⟨k + 1, by simp, by omega, HN.out, rfl⟩
        · have hlt' : ¬ (k : Int) < (t.length : Int) := by omega
          have HV := Lib.hid (show r = (3, 0) by
            have := HI.out
            rw [List.take_of_length_le (by omega)] at this
            rw [← HR.out]
            exact kd_none12 HP.out HNE.out this)
          go_wp2
          go_ret2
          exact ⟨by rw [HV.out]; rfl, HB.out⟩
  · rw [decide_eq_false h1] at HC
    have HV := Lib.hid (show r = (2, 0) by rw [← HR.out]; exact kd_bad12 h1)
    clear h1 HR
    go_enter Tryz.func57, Tryz.ntmps57
    go_wp2_with fail
    refine (HC.out).mono ?_
    rintro e w1 ⟨_, _, rfl, _, hb⟩
    have HB := Lib.hid hb
    clear hb
    go_wp2
    go_ret2
    exact ⟨by rw [HV.out]; rfl, HB.out⟩
set_option maxRecDepth 10000 in
set_option maxHeartbeats 2000000 in
theorem refData12 (t : List Ent) (a : Option Addr) (cap : Nat) (p : ByteArray) (w : World) (h : Ents w a cap t) (hl : t.length ≤ 1000) :
    Calls Tryz.prog 59 #[.slice a t.length cap, .string p] w fun e w' => e = .returned (.string (datV t p.data.toList)) ∧ w = w' := by
  have HE := Lib.hid h
  have HL := Lib.hid hl
  obtain ⟨r, hr⟩ : ∃ r, datV t p.data.toList = r := ⟨_, rfl⟩
  rw [hr]
  have HR := Lib.hid hr
  clear h hl hr
  go_enter Tryz.func59, Tryz.ntmps59
  go_wp2
  go_loopg [5] t.length (fun g i wx => ∃ k : Nat, i = .int .i64 (k : Int) ∧ k + g = t.length ∧ Hid (fnd (t.take k) p.data.toList = none) ∧ w = wx)
  case atStart => exact ⟨0, rfl, by omega, by simp [Hid, fnd], rfl⟩
  case round =>
    obtain ⟨k, rfl, hk, HI, rfl⟩ := hrel
    have hw : IntKind.i64.wrap ((k : Int) + 1) = (k : Int) + 1 := IntWalk.i64_in _ (by have := HL.out; omega)
    by_cases hlt : k < t.length
    · have hlt' : (k : Int) < (t.length : Int) := by omega
      obtain ⟨b, off, rfl, _, hc⟩ := Ents.at HE.out (Below.refl _ _) hlt
      have HS := Lib.hid (fun h => fnd_snoc12 hlt HI.out (p := p.data.toList) h)
      have HM := Lib.hid (fun h => fnd_more12 hlt HI.out (p := p.data.toList) h)
      obtain ⟨x, hx⟩ : ∃ x, t[k] = x := ⟨_, rfl⟩
      rw [hx] at hc HS HM
      have c0 := hc.c0
      have c2 := hc.c2
      clear hc hx
      by_cases hq : pl x = p.data.toList
      · have g1 : (x.1.toList == p.toList) = true := by rw [Lib.toList_data, Lib.toList_data, beq_iff_eq]; exact hq
        have HV := Lib.hid (show r = x.2.2 by rw [← HR.out]; exact dat_some12 (HS.out hq))
        clear hq
        go_wp2
        go_ret
        exact ⟨by rw [HV.out]; rfl, rfl⟩
      · have g1 : (x.1.toList == p.toList) = false := by rw [Lib.toList_data, Lib.toList_data, beq_eq_false_iff_ne]; exact hq
        have HN := Lib.hid (HM.out hq)
        clear hq
        go_wp2
        go_roundg (gk - 1)
        case measure => omega
        case rel => exact ⟨k + 1, by simp, by omega, HN.out, rfl⟩
    · have hlt' : ¬ (k : Int) < (t.length : Int) := by omega
      have HV := Lib.hid (show r = ⟨#[]⟩ by
        have := HI.out
        rw [List.take_of_length_le (by omega)] at this
        rw [← HR.out]
        exact dat_none12 this)
      go_wp2
      go_ret
      exact ⟨by rw [HV.out]; rfl, rfl⟩
end Go.Proofs.YtemnlolkmjdefaaGreatDoor
