/-
  The contract of the document's own Names of a stack (package shaleref13). Conditions: a stack in memory that can be looked at; the text has at most 100000 bytes.
-/
import Derived.Test.YtemnlolkmjdefaaGreatDoorS13Ref
import Derived.Test.YtemnlolkmjdefaaGreatDoorPf
import Derived.Test.YtemnlolkmjdefaaGreatDoorS12Ref2
namespace Go.Proofs.YtemnlolkmjdefaaGreatDoor
open Go.RowKit

theorem naV_at {S : List (List Ent)} (h : LkOK S) (p : List UInt8) : naV S p = if (atV (stk S) p).1 ≠ 0 then ((atV (stk S) p).1, []) else if (atV (stk S) p).2.2.1 = 1 then (6, []) else (0, nmB (stk S) p) := by
  unfold naV drV
  rw [lkV_ok h]
  by_cases hp : isP p
  · obtain ⟨h1, h2, _, h4⟩ := look_all h.2 p hp
    rw [← h1, ← h2]
    by_cases h0 : (atS S p).1 = 0
    · have hk : (atS S p).2.1.2.1 = 2 ∨ (atS S p).2.1.2.1 = 1 := (h4 h0).2.imp (fun h => h.1) fun h => h.1
      simp only [if_neg (not_not_intro h0)]
      rcases hk with hk | hk
      · have hk1 : ¬ (atS S p).2.1.2.1 = 1 := by omega
        simp only [if_neg (not_not_intro hk), if_neg hk1]
        simp
      · have hk2 : (atS S p).2.1.2.1 ≠ 2 := by omega
        simp only [if_pos hk2, if_pos hk]
        simp
    · simp only [if_pos h0]
  · rw [atS_bad hp, show atV (stk S) p = (2, noE) from if_pos hp]
    simp
set_option maxRecDepth 10000 in
set_option maxHeartbeats 2000000 in
theorem refN13 (S : List (List Ent)) (a : Option Addr) (cap : Nat) (p : ByteArray) (w : World) (h : Stk w a cap S) (hok : LkOK S) (hp : p.size ≤ 100000) :
    Calls Tryz.prog 15 #[.slice a S.length cap, .string p] w fun e w' => ∃ a' cap', e = .returned (.tuple #[.slice a' (naV S p.data.toList).2.length cap', .int .i64 (naV S p.data.toList).1]) ∧ Row w' a' cap' (naV S p.data.toList).2 ∧ Below w.heap.size w w' := by
  have HE := Lib.hid h
  have HC := Lib.hid (refAt12 S a cap p w h hok.1 hok.2 hp)
  have HST : Hid (∀ W, Below w.heap.size w W → _) := fun W hW => refStack10 S a cap W (Stk.below HE.out hW) (by have := hok.1; omega) hok.2
  have HTT := Lib.hid (tr_stk hok.2)
  have HTL := Lib.hid (show (stk S).length ≤ 1000 by have := stk_len hok.2; have := hok.1; omega)
  obtain ⟨R, hR⟩ : ∃ R, naV S p.data.toList = R := ⟨_, rfl⟩
  have HR := Lib.hid (hR.symm.trans (naV_at hok p.data.toList))
  rw [hR]
  obtain ⟨v, hv⟩ : ∃ v, atV (stk S) p.data.toList = v := ⟨_, rfl⟩
  rw [hv] at HR HC
  clear h hok hp hR hv
  by_cases h0 : v.1 = 0
  · have g0 : (v.1 == 0) = true := beq_iff_eq.2 h0
    by_cases h1 : v.2.2.1 = 1
    · have g1 : (v.2.2.1 == 1) = true := beq_iff_eq.2 h1
      have HV := Lib.hid (show R = (6, []) by rw [HR.out, if_neg (not_not_intro h0), if_pos h1])
      clear h0 h1 HR
      go_enter Tryz.func15, Tryz.ntmps15
      go_wp2_with fail
      refine (HC.out).mono ?_
      rintro e w1 ⟨rfl, hb⟩
      have HB1 := Lib.hid hb
      clear hb
      go_wp2
      go_ret2
      exact ⟨none, 0, by rw [HV.out]; rfl, by rw [HV.out]; exact ⟨Nat.zero_le _, .inl rfl⟩, HB1.out⟩
    · have g1 : (v.2.2.1 == 1) = false := beq_eq_false_iff_ne.2 h1
      have HV := Lib.hid (show R = (0, nmB (stk S) p.data.toList) by rw [HR.out, if_neg (not_not_intro h0), if_neg h1])
      clear h0 h1 HR
      go_enter Tryz.func15, Tryz.ntmps15
      go_wp2_with fail
      refine (HC.out).mono ?_
      rintro e w1 ⟨rfl, hb⟩
      have HB1 := Lib.hid hb
      clear hb
      go_wp2_with fail
      refine (HST.out _ HB1.out).mono ?_
      rintro e w2 ⟨a2, c2, rfl, h9, hb⟩
      have HB2 := Lib.hid (HB1.out.trans (hb.mono HB1.out.size))
      have HE2 := Lib.hid h9
      clear h9 hb
      go_wp2_with fail
      refine (refNames13 (stk S) a2 c2 p _ HE2.out HTT.out HTL.out).mono ?_
      rintro e w3 ⟨a3, c3, rfl, h9, hb⟩
      have HB3 := Lib.hid (HB2.out.trans (hb.mono HB2.out.size))
      have HR3 := Lib.hid h9
      clear h9 hb
      go_wp2
      go_ret2
      exact ⟨a3, c3, by rw [HV.out]; rfl, by rw [HV.out]; exact HR3.out, HB3.out⟩
  · have g0 : (v.1 == 0) = false := beq_eq_false_iff_ne.2 h0
    have HV := Lib.hid (show R = (v.1, []) by rw [HR.out, if_pos h0])
    clear h0 HR
    go_enter Tryz.func15, Tryz.ntmps15
    go_wp2_with fail
    refine (HC.out).mono ?_
    rintro e w1 ⟨rfl, hb⟩
    have HB1 := Lib.hid hb
    clear hb
    go_wp2
    go_ret2
    exact ⟨none, 0, by rw [HV.out]; rfl, by rw [HV.out]; exact ⟨Nat.zero_le _, .inl rfl⟩, HB1.out⟩
end Go.Proofs.YtemnlolkmjdefaaGreatDoor
