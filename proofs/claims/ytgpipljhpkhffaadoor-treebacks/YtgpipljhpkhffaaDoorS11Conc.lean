/-
  Contracts of package tree's with and without: a tree with an entry where none stands, without the one that stands at a place. Conditions: the list lies in memory, rises, has at most 1000 entries.
-/
import Derived.Test.YtgpipljhpkhffaaDoorS11Plc
import Derived.Test.YtgpipljhpkhffaaDoorStkNew
import Derived.Test.YtgpipljhpkhffaaDoorPb
import Derived.Deep.RegionHeld3
namespace Go.Proofs.YtgpipljhpkhffaaDoor
open Go.RowKit

set_option maxRecDepth 10000 in
set_option maxHeartbeats 4000000 in
theorem without11 (l : List Ent) (a : Option Addr) (cap : Nat) (p : List UInt8) (x : Ent) (w : World) (h : Ents w a cap l) (hA : Asc l) (hl : l.length ≤ 1000) (hf : fnd l p = some x) : Calls Tryd.prog 34 #[.slice a l.length cap, .int .i64 (plc l p : Nat)] w fun e w' => ∃ a' cap', e = .returned (.slice a' (wout l p).length cap') ∧ Ents w' a' cap' (wout l p) ∧ Below w.heap.size w w' := by
  have HWO := Lib.hid (wout_old hA hf)
  obtain ⟨hk, _, _⟩ := plc_some hA hf
  obtain ⟨K, hK⟩ : ∃ K, plc l p = K := ⟨_, rfl⟩
  rw [hK] at hk HWO ⊢
  obtain ⟨b, off, rfl, _, _⟩ := Ents.at h (Below.refl _ _) hk
  have HOL := Lib.hid (show (wout l p).length ≤ 1000 by have : (wout l p).length ≤ l.length := List.length_filter_le _ _; omega)
  obtain ⟨o, ho⟩ : ∃ o, wout l p = o := ⟨_, rfl⟩
  rw [ho] at HWO HOL ⊢
  have HOF := Lib.hid (show o = [l.take K, l.drop (K + 1)].flatten by rw [HWO.out]; simp)
  have HE := Lib.hid h
  have HCAP := Lib.hid h.1
  have k1 : (K : Int) ≤ (cap : Int) := by have := h.1; omega
  have k2 : (K : Int) + 1 ≤ (l.length : Int) := by omega
  have k3 : IntKind.i64.wrap ((K : Int) + 1) = (K : Int) + 1 := IntWalk.i64_in _ (by omega)
  have k4 : (0 : Int) ≤ (K : Int) + 1 := by omega
  have k5 : ((K : Int) + 1).toNat = K + 1 := by omega
  have k6 : (l.length : Int) ≤ (cap : Int) := by have := h.1; omega
  clear hf hK ho h hA hl
  by_cases hcap : cap = K + 1
  · subst hcap
    have k7 : (K : Int) ≤ (K : Int) + 1 := by omega
    have k8 : (l.length : Int) ≤ (K : Int) + 1 := by have := HCAP.out; omega
    have HCC := Lib.hid (concat9 [l.take K, l.drop (K + 1)] _ _ _ ((stk2_new w (some ⟨b, off, none⟩) (some ⟨b, off, none⟩) (K + 1) 0 (l.take K) (l.drop (K + 1)) (Ents.take HE.out K) (by rw [List.drop_eq_nil_iff.2 HCAP.out]; exact ents_nil _ _ _)).drew) (by simp) (by rw [← HOF.out]; have := HOL.out; omega))
    simp only [← HOF.out] at HCC
    rw [List.length_take, List.length_drop, Nat.min_eq_left (show K ≤ l.length by omega)] at HCC
    have HA1 : Hid (Calls Tryd.prog 51 #[.slice (some ⟨w.heap.size, 0, none⟩) 2 2] (w.alloc (.cells #[.slice (some ⟨b, off, none⟩) K (K + 1), .slice (some ⟨b, off, none⟩) (l.length - (K + 1)) 0] 22)).drew fun e w' => ∃ a4 cap4, e = .returned (.slice a4 o.length cap4) ∧ Ents w' a4 cap4 o ∧ Below w.heap.size w w') := by
      refine HCC.out.mono ?_
      rintro e w' ⟨a4, cap4, rfl, h4, hb⟩
      exact ⟨a4, cap4, rfl, h4, (show Below w.heap.size w _ from ((Below.refl _ _).alloc (Nat.le_refl _) _).drew).trans (hb.mono (by simp))⟩
    clear HCC
    go_enter Tryd.func34, Tryd.ntmps34
    go_wp2_with fail
    go_region_held3 (fun _ => True) (trivial) (first
      | (go_at_call 51; with_reducible refine (HA1.out).mono ?_; rintro e w4 ⟨a4, cap4, rfl, h4, hB4⟩))
    all_goals
      have HB4 := Lib.hid hB4
      have HE4 := Lib.hid h4
      clear h4 hB4
      go_wp2
      go_ret
      exact ⟨a4, cap4, rfl, HE4.out, HB4.out⟩

  · have HCC := Lib.hid (concat9 [l.take K, l.drop (K + 1)] _ _ _ ((stk2_new w (some ⟨b, off, none⟩) (some ⟨b, off + (K + 1) * 3, none⟩) cap (cap - (K + 1)) (l.take K) (l.drop (K + 1)) (Ents.take HE.out K) (Ents.drop HE.out (K + 1) (by omega))).drew) (by simp) (by rw [← HOF.out]; have := HOL.out; omega))
    simp only [← HOF.out] at HCC
    rw [List.length_take, List.length_drop, Nat.min_eq_left (show K ≤ l.length by omega)] at HCC
    have HA1 : Hid (Calls Tryd.prog 51 #[.slice (some ⟨w.heap.size, 0, none⟩) 2 2] (w.alloc (.cells #[.slice (some ⟨b, off, none⟩) K cap, .slice (some ⟨b, off + (K + 1) * 3, none⟩) (l.length - (K + 1)) (cap - (K + 1))] 22)).drew fun e w' => ∃ a4 cap4, e = .returned (.slice a4 o.length cap4) ∧ Ents w' a4 cap4 o ∧ Below w.heap.size w w') := by
      refine HCC.out.mono ?_
      rintro e w' ⟨a4, cap4, rfl, h4, hb⟩
      exact ⟨a4, cap4, rfl, h4, (show Below w.heap.size w _ from ((Below.refl _ _).alloc (Nat.le_refl _) _).drew).trans (hb.mono (by simp))⟩
    clear HCC
    go_enter Tryd.func34, Tryd.ntmps34
    go_wp2_with fail
    go_region_held3 (fun _ => True) (trivial) (first
      | (go_at_call 51; with_reducible refine (HA1.out).mono ?_; rintro e w4 ⟨a4, cap4, rfl, h4, hB4⟩))
    all_goals
      have HB4 := Lib.hid hB4
      have HE4 := Lib.hid h4
      clear h4 hB4
      go_wp2
      go_ret
      exact ⟨a4, cap4, rfl, HE4.out, HB4.out⟩

set_option maxRecDepth 10000 in
set_option maxHeartbeats 8000000 in
theorem with11 (l : List Ent) (a : Option Addr) (cap : Nat) (x : Ent) (w : World) (h : Ents w a cap l) (hA : Asc l) (hl : l.length ≤ 1000) (hf : fnd l (pl x) = none) : Calls Tryd.prog 33 #[.slice a l.length cap, enV x] w fun e w' => ∃ a' cap', e = .returned (.slice a' (wth l x).length cap') ∧ Ents w' a' cap' (wth l x) ∧ Below w.heap.size w w' := by
  obtain ⟨W, hW⟩ : ∃ W, w.alloc (.cells #[.string x.1, .int .i64 x.2.1, .string x.2.2] 41) = W := ⟨_, rfl⟩
  obtain ⟨N, hN⟩ : ∃ N, w.heap.size = N := ⟨_, rfl⟩
  have hb0 : Below w.heap.size w W := by rw [← hW]; exact (Below.refl _ _).alloc (Nat.le_refl _) _
  have HE := Lib.hid (RowN.below h hb0)
  have HR0 := Lib.hid (show EnAt W N x.1 x.2.1 x.2.2 by rw [← hW, ← hN]; exact enAt_new _ _ _ _)
  have HB0 := Lib.hid hb0
  have c0 := HR0.out.c0
  have c1 := HR0.out.c1
  have c2 := HR0.out.c2
  have HPC := Lib.hid (place11 l a cap x.1 W HE.out hA hl)
  rw [show (fnd l x.1.data.toList).isSome = false by rw [show fnd l x.1.data.toList = none from hf]; rfl] at HPC
  have HWO := Lib.hid (wth_new hA hf)
  have HOL := Lib.hid (show (wth l x).length ≤ 1001 by have := wth_le l x; omega)
  obtain ⟨K, hK⟩ : ∃ K, plc l (pl x) = K := ⟨_, rfl⟩
  rw [show plc l x.1.data.toList = K from hK] at HPC
  have HKL := Lib.hid (show K ≤ l.length by rw [← hK]; exact plc_le _ _)
  obtain ⟨o, ho⟩ : ∃ o, wth l x = o := ⟨_, rfl⟩
  rw [ho, hK] at HWO
  rw [ho] at HOL ⊢
  have HL := Lib.hid hl
  have HCAP := Lib.hid h.1
  clear h hA hl hf ho hb0
  go_enter Tryd.func33, Tryd.ntmps33
  go_wp2_with fail
  refine (HPC.out).mono ?_
  rintro e w3 ⟨rfl, hb⟩
  have HB3 := Lib.hid (HB0.out.trans (hb.mono HB0.out.size))
  have HE3 := Lib.hid (RowN.below HE.out hb)
  have HR3 := Lib.hid (HR0.out.below hb)
  clear hb c0 c1 c2
  have c0 := HR3.out.c0
  have c1 := HR3.out.c1
  have c2 := HR3.out.c2
  have HKS : Hid (∀ X, Below w3.heap.size w3 X → X.cell? ⟨N, 0, none⟩ = some (.string x.1) ∧ X.cell? ⟨N, 1, none⟩ = some (.int .i64 x.2.1) ∧ X.cell? ⟨N, 2, none⟩ = some (.string x.2.2)) := fun X hX => ⟨(HR3.out.below hX).c0, (HR3.out.below hX).c1, (HR3.out.below hX).c2⟩
  have HOF := Lib.hid (show o = [l.take K, [x], l.drop K].flatten by rw [HWO.out]; simp)
  have HL1 := Lib.hid (show (l.take K).length = K by rw [List.length_take]; have := HKL.out; omega)
  have HL3 := Lib.hid (show (l.drop K).length = l.length - K by rw [List.length_drop])
  have k1 : (K : Int) ≤ (cap : Int) := by have := HCAP.out; have := HKL.out; omega
  have k2 : (K : Int) ≤ (l.length : Int) := by have := HKL.out; omega
  have k6 : (l.length : Int) ≤ (cap : Int) := by have := HCAP.out; omega
  by_cases hl0 : l = []
  · subst hl0
    obtain rfl : K = 0 := by rw [← hK]; rfl
    clear hK
    have HOF0 := Lib.hid (show o = [([] : List Ent), [x], []].flatten by rw [HWO.out]; rfl)
    clear HOF
    have HOF := HOF0
    have HL10 := Lib.hid (show ([] : List Ent).length = 0 from rfl)
    clear HL1 HL3
    rcases a with _ | ⟨b, off, sp⟩
    · have HST := Lib.hid (stk3_new w3 none none cap cap ([] : List Ent) ([] : List Ent) x (ents_nil _ _ _) (ents_nil _ _ _))
      have HCC := Lib.hid (concat9 [([] : List Ent), [x], ([] : List Ent)] _ _ _ HST.out.1 (by simp) (by rw [← HOF.out]; have := HOL.out; omega))
      have HBW := Lib.hid HST.out.2
      simp only [← HOF.out] at HCC
      rw [HL10.out] at HCC HBW
      have HA1 : Hid (Calls Tryd.prog 51 #[.slice (some ⟨w3.heap.size + 1, 0, none⟩) 3 3] (W3 w3 none none 0 0 cap cap x) fun e w' => ∃ a4 cap4, e = .returned (.slice a4 o.length cap4) ∧ Ents w' a4 cap4 o ∧ Below w3.heap.size w3 w') := by
        refine HCC.out.mono ?_
        rintro e w' ⟨a4, cap4, rfl, h4, hb⟩
        exact ⟨a4, cap4, rfl, h4, HBW.out.trans (hb.mono HBW.out.size)⟩
      unfold W3 at HA1
      clear HCC HBW HST
      go_wp2_with fail
      go_region_held3 (fun X => X.cell? ⟨N, 0, none⟩ = some (.string x.1) ∧ X.cell? ⟨N, 1, none⟩ = some (.int .i64 x.2.1) ∧ X.cell? ⟨N, 2, none⟩ = some (.string x.2.2))
        ((with_reducible refine HKS.out _ ?_; (first | with_reducible assumption | with_reducible exact Below.refl _ _ | with_reducible exact (Below.refl _ _).drew | with_reducible exact (Below.refl _ _).alloc (Nat.le_refl _) _ | with_reducible exact ((Below.refl _ _).drew).alloc (Nat.le_refl _) _ | with_reducible exact ((Below.refl _ _).alloc (Nat.le_refl _) _).drew | exact (((Below.refl _ _).alloc (Nat.le_refl _) _).alloc (by simp) _) | exact (((Below.refl _ _).alloc (Nat.le_refl _) _).alloc (by simp) _).drew)))
        (first
        | (go_at_call 51; with_reducible refine (HA1.out).mono ?_; rintro e w4 ⟨a4, cap4, rfl, h4, hB4⟩))
      all_goals
        have HB5 := Lib.hid (HB3.out.trans (hB4.mono HB3.out.size))
        have HE5 := Lib.hid h4
        clear h4 hB4
        go_wp2
        go_ret
        exact ⟨a4, cap4, rfl, HE5.out, HB5.out⟩

    · have HST := Lib.hid (stk3_new w3 (some ⟨b, off, sp⟩) (some ⟨b, off, sp⟩) cap cap ([] : List Ent) ([] : List Ent) x (ents_nil _ _ _) (ents_nil _ _ _))
      have HCC := Lib.hid (concat9 [([] : List Ent), [x], ([] : List Ent)] _ _ _ HST.out.1 (by simp) (by rw [← HOF.out]; have := HOL.out; omega))
      have HBW := Lib.hid HST.out.2
      simp only [← HOF.out] at HCC
      rw [HL10.out] at HCC HBW
      have HA1 : Hid (Calls Tryd.prog 51 #[.slice (some ⟨w3.heap.size + 1, 0, none⟩) 3 3] (W3 w3 (some ⟨b, off, sp⟩) (some ⟨b, off, sp⟩) 0 0 cap cap x) fun e w' => ∃ a4 cap4, e = .returned (.slice a4 o.length cap4) ∧ Ents w' a4 cap4 o ∧ Below w3.heap.size w3 w') := by
        refine HCC.out.mono ?_
        rintro e w' ⟨a4, cap4, rfl, h4, hb⟩
        exact ⟨a4, cap4, rfl, h4, HBW.out.trans (hb.mono HBW.out.size)⟩
      unfold W3 at HA1
      clear HCC HBW HST
      go_wp2_with fail
      go_region_held3 (fun X => X.cell? ⟨N, 0, none⟩ = some (.string x.1) ∧ X.cell? ⟨N, 1, none⟩ = some (.int .i64 x.2.1) ∧ X.cell? ⟨N, 2, none⟩ = some (.string x.2.2))
        ((with_reducible refine HKS.out _ ?_; (first | with_reducible assumption | with_reducible exact Below.refl _ _ | with_reducible exact (Below.refl _ _).drew | with_reducible exact (Below.refl _ _).alloc (Nat.le_refl _) _ | with_reducible exact ((Below.refl _ _).drew).alloc (Nat.le_refl _) _ | with_reducible exact ((Below.refl _ _).alloc (Nat.le_refl _) _).drew | exact (((Below.refl _ _).alloc (Nat.le_refl _) _).alloc (by simp) _) | exact (((Below.refl _ _).alloc (Nat.le_refl _) _).alloc (by simp) _).drew)))
        (first
        | (go_at_call 51; with_reducible refine (HA1.out).mono ?_; rintro e w4 ⟨a4, cap4, rfl, h4, hB4⟩))
      all_goals
        have HB5 := Lib.hid (HB3.out.trans (hB4.mono HB3.out.size))
        have HE5 := Lib.hid h4
        clear h4 hB4
        go_wp2
        go_ret
        exact ⟨a4, cap4, rfl, HE5.out, HB5.out⟩

  · obtain ⟨b, off, rfl, _, _⟩ := Ents.at HE3.out (Below.refl _ _) (show 0 < l.length from List.length_pos_iff.2 hl0)
    clear hK
    by_cases hcap : cap = K
    · subst hcap
      have HST := Lib.hid (stk3_new w3 (some ⟨b, off, none⟩) (some ⟨b, off, none⟩) cap 0 (l.take cap) (l.drop cap) x (Ents.take HE3.out cap) (by rw [List.drop_eq_nil_iff.2 HCAP.out]; exact ents_nil _ _ _))
      have HCC := Lib.hid (concat9 [(l.take cap), [x], (l.drop cap)] _ _ _ HST.out.1 (by simp) (by rw [← HOF.out]; have := HOL.out; omega))
      have HBW := Lib.hid HST.out.2
      simp only [← HOF.out] at HCC
      rw [HL1.out, HL3.out] at HCC HBW
      have HA1 : Hid (Calls Tryd.prog 51 #[.slice (some ⟨w3.heap.size + 1, 0, none⟩) 3 3] (W3 w3 (some ⟨b, off, none⟩) (some ⟨b, off, none⟩) cap (l.length - cap) cap 0 x) fun e w' => ∃ a4 cap4, e = .returned (.slice a4 o.length cap4) ∧ Ents w' a4 cap4 o ∧ Below w3.heap.size w3 w') := by
        refine HCC.out.mono ?_
        rintro e w' ⟨a4, cap4, rfl, h4, hb⟩
        exact ⟨a4, cap4, rfl, h4, HBW.out.trans (hb.mono HBW.out.size)⟩
      unfold W3 at HA1
      clear HCC HBW HST
      go_wp2_with fail
      go_region_held3 (fun X => X.cell? ⟨N, 0, none⟩ = some (.string x.1) ∧ X.cell? ⟨N, 1, none⟩ = some (.int .i64 x.2.1) ∧ X.cell? ⟨N, 2, none⟩ = some (.string x.2.2))
        ((with_reducible refine HKS.out _ ?_; (first | with_reducible assumption | with_reducible exact Below.refl _ _ | with_reducible exact (Below.refl _ _).drew | with_reducible exact (Below.refl _ _).alloc (Nat.le_refl _) _ | with_reducible exact ((Below.refl _ _).drew).alloc (Nat.le_refl _) _ | with_reducible exact ((Below.refl _ _).alloc (Nat.le_refl _) _).drew | exact (((Below.refl _ _).alloc (Nat.le_refl _) _).alloc (by simp) _) | exact (((Below.refl _ _).alloc (Nat.le_refl _) _).alloc (by simp) _).drew)))
        (first
        | (go_at_call 51; with_reducible refine (HA1.out).mono ?_; rintro e w4 ⟨a4, cap4, rfl, h4, hB4⟩))
      all_goals
        have HB5 := Lib.hid (HB3.out.trans (hB4.mono HB3.out.size))
        have HE5 := Lib.hid h4
        clear h4 hB4
        go_wp2
        go_ret
        exact ⟨a4, cap4, rfl, HE5.out, HB5.out⟩

    · have HST := Lib.hid (stk3_new w3 (some ⟨b, off, none⟩) (some ⟨b, off + K * 3, none⟩) cap (cap - K) (l.take K) (l.drop K) x (Ents.take HE3.out K) (Ents.drop HE3.out K HKL.out))
      have HCC := Lib.hid (concat9 [(l.take K), [x], (l.drop K)] _ _ _ HST.out.1 (by simp) (by rw [← HOF.out]; have := HOL.out; omega))
      have HBW := Lib.hid HST.out.2
      simp only [← HOF.out] at HCC
      rw [HL1.out, HL3.out] at HCC HBW
      have HA1 : Hid (Calls Tryd.prog 51 #[.slice (some ⟨w3.heap.size + 1, 0, none⟩) 3 3] (W3 w3 (some ⟨b, off, none⟩) (some ⟨b, off + K * 3, none⟩) K (l.length - K) cap (cap - K) x) fun e w' => ∃ a4 cap4, e = .returned (.slice a4 o.length cap4) ∧ Ents w' a4 cap4 o ∧ Below w3.heap.size w3 w') := by
        refine HCC.out.mono ?_
        rintro e w' ⟨a4, cap4, rfl, h4, hb⟩
        exact ⟨a4, cap4, rfl, h4, HBW.out.trans (hb.mono HBW.out.size)⟩
      unfold W3 at HA1
      clear HCC HBW HST
      go_wp2_with fail
      go_region_held3 (fun X => X.cell? ⟨N, 0, none⟩ = some (.string x.1) ∧ X.cell? ⟨N, 1, none⟩ = some (.int .i64 x.2.1) ∧ X.cell? ⟨N, 2, none⟩ = some (.string x.2.2))
        ((with_reducible refine HKS.out _ ?_; (first | with_reducible assumption | with_reducible exact Below.refl _ _ | with_reducible exact (Below.refl _ _).drew | with_reducible exact (Below.refl _ _).alloc (Nat.le_refl _) _ | with_reducible exact ((Below.refl _ _).drew).alloc (Nat.le_refl _) _ | with_reducible exact ((Below.refl _ _).alloc (Nat.le_refl _) _).drew | exact (((Below.refl _ _).alloc (Nat.le_refl _) _).alloc (by simp) _) | exact (((Below.refl _ _).alloc (Nat.le_refl _) _).alloc (by simp) _).drew)))
        (first
        | (go_at_call 51; with_reducible refine (HA1.out).mono ?_; rintro e w4 ⟨a4, cap4, rfl, h4, hB4⟩))
      all_goals
        have HB5 := Lib.hid (HB3.out.trans (hB4.mono HB3.out.size))
        have HE5 := Lib.hid h4
        clear h4 hB4
        go_wp2
        go_ret
        exact ⟨a4, cap4, rfl, HE5.out, HB5.out⟩

end Go.Proofs.YtgpipljhpkhffaaDoor
