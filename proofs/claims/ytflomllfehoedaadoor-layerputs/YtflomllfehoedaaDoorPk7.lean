/-
  The contract of layer.Put. Conditions: the list lies in memory, has at most 1000 entries, texts of at most 100000 bytes, the entry too.
  Contracts of layer.entries and layer.Read: the entries that bytes begin with; a layer's text, and no other one. Conditions: the bytes are at most 100000.
  Package layer as landed answers as Layer9 says. Conditions: those of Layer9.
  What the statements of layer 9 share: the document's example. Conditions: package layer answers as Layer9 says; errorType holds error's type.
  An entry (api.Entry) that is handed in: its path, kind and data. No condition.
  A slice of entries ([]api.Entry) that is handed in, as a list. No condition.
  The contract of the document's own Lay of a right layer (package shaleref09): its text. Condition: the list lies in memory.
-/
import Derived.Test.YtflomllfehoedaaDoorPk6
import Derived.Test.YtflomllfehoedaaDoorKit
import Derived.Deep.Strs
namespace Go.Proofs.YtflomllfehoedaaDoor
open Go.RowKit

theorem ptV_bad {l : List Ent} {e : Ent} (h : ¬ (RightL l ∧ rE e = true)) : ptV l e = (1, []) := if_neg h
theorem ptV_full {l : List Ent} {e : Ent} (h : RightL l ∧ rE e = true) (hf : fnd l (pl e) = none) (h64 : l.length = 64) : ptV l e = (9, []) := by unfold ptV; rw [if_pos h, if_pos ⟨hf, h64⟩]
theorem ptV_go {l : List Ent} {e : Ent} (h : RightL l ∧ rE e = true) (hf : ¬ (fnd l (pl e) = none ∧ l.length = 64)) : ptV l e = (if RightL (wth l e) then 0 else 16, if RightL (wth l e) then wth l e else []) := by
  unfold ptV
  rw [if_pos h, if_neg hf]
  split <;> rfl
/-- Three lists, the second one of one entry, in new memory. -/
def W3 (w : World) (a1 a3 : Option Addr) (n1 n3 c1 c3 : Nat) (x : Ent) : World := ((w.alloc (.cells #[.string x.1, .int .i64 x.2.1, .string x.2.2] 38)).alloc (.cells #[.slice a1 n1 c1, .slice (some ⟨w.heap.size, 0, none⟩) 1 1, .slice a3 n3 c3] 22)).drew
theorem stk3_new (w : World) (a1 a3 : Option Addr) (c1 c3 : Nat) (l1 l3 : List Ent) (x : Ent) (h1 : Ents w a1 c1 l1) (h3 : Ents w a3 c3 l3) : Stk (W3 w a1 a3 l1.length l3.length c1 c3 x) (some ⟨w.heap.size + 1, 0, none⟩) 3 [l1, [x], l3] ∧ Below w.heap.size w (W3 w a1 a3 l1.length l3.length c1 c3 x) := by
  unfold W3
  have hb0 : Below w.heap.size w (w.alloc (.cells #[.string x.1, .int .i64 x.2.1, .string x.2.2] 38)) := (Below.refl _ _).alloc (Nat.le_refl _) _
  have hn := enAt_new w x.1 x.2.1 x.2.2
  have hz : (w.alloc (.cells #[.string x.1, .int .i64 x.2.1, .string x.2.2] 38)).heap.size = w.heap.size + 1 := by simp
  obtain ⟨V, hV⟩ : ∃ V, w.alloc (.cells #[.string x.1, .int .i64 x.2.1, .string x.2.2] 38) = V := ⟨_, rfl⟩
  rw [hV] at hb0 hn hz ⊢
  have hb : Below V.heap.size V (V.alloc (.cells #[.slice a1 l1.length c1, .slice (some ⟨w.heap.size, 0, none⟩) 1 1, .slice a3 l3.length c3] 22)) := (Below.refl _ _).alloc (Nat.le_refl _) _
  have hk := heap_alloc_new V (.cells #[.slice a1 l1.length c1, .slice (some ⟨w.heap.size, 0, none⟩) 1 1, .slice a3 l3.length c3] 22)
  rw [hz] at hk
  refine ⟨Stk.drew ⟨Nat.le_refl _, .inr ⟨w.heap.size + 1, 0, rfl, by simp [hz], fun j l hl => ?_⟩⟩, (hb0.trans (hb.mono hb0.size)).drew⟩
  match j, hl with
  | 0, hl => obtain rfl : l1 = l := by simpa using hl
             exact ⟨a1, c1, (cell_of8 hk (j := 0 + 0) rfl).1, RowN.below (RowN.below h1 hb0) hb⟩
  | 1, hl => obtain rfl : [x] = l := by simpa using hl
             refine ⟨some ⟨w.heap.size, 0, none⟩, 1, (cell_of8 hk (j := 0 + 1) rfl).1, Nat.le_refl _, .inr ⟨w.heap.size, 0, rfl, by simp [hz]; omega, fun j y hy => ?_⟩⟩
             obtain ⟨rfl, rfl⟩ : j = 0 ∧ x = y := by
               cases j with
               | zero => exact ⟨rfl, by simpa using hy⟩
               | succ j => simp at hy
             exact fun i v hv => by have := rangeAt_below hn.range hb (by omega) i v hv; simpa using this
  | 2, hl => obtain rfl : l3 = l := by simpa using hl
             exact ⟨a3, c3, (cell_of8 hk (j := 0 + 2) rfl).1, RowN.below (RowN.below h3 hb0) hb⟩
set_option maxRecDepth 10000 in
set_option maxHeartbeats 8000000 in
theorem put9 (l : List Ent) (a : Option Addr) (cap : Nat) (x : Ent) (w : World) (h : Ents w a cap l) (hs : Sm l) (hx : Sm [x]) : Calls Tryd.prog 16 #[.slice a l.length cap, enV x] w fun e w' => ∃ a' cap' er, e = .returned (.tuple #[.slice a' (ptV l x).2.length cap', er]) ∧ Ents w' a' cap' (ptV l x).2 ∧ Er w' (ptV l x).1 er ∧ Below w.heap.size w w' := by
  obtain ⟨W, hW⟩ : ∃ W, w.alloc (.cells #[.string x.1, .int .i64 x.2.1, .string x.2.2] 38) = W := ⟨_, rfl⟩
  obtain ⟨N, hN⟩ : ∃ N, w.heap.size = N := ⟨_, rfl⟩
  have hb0 : Below w.heap.size w W := by rw [← hW]; exact (Below.refl _ _).alloc (Nat.le_refl _) _
  have HC := Lib.hid (right9 l a cap W (RowN.below h hb0) hs)
  have HE := Lib.hid (RowN.below h hb0)
  have HR0 := Lib.hid (show EnAt W N x.1 x.2.1 x.2.2 by rw [← hW, ← hN]; exact enAt_new _ _ _ _)
  have HB0 := Lib.hid hb0
  have HSM := Lib.hid hs
  have HSX := Lib.hid (hx.2 x (by simp))
  have HXR := Lib.hid (fun W' => right8 x.1 x.2.1 x.2.2 (by have := HSX.out; unfold maxLen; omega) W')
  have HRX := Lib.hid (show rE x = rightE x.1 x.2.1 x.2.2 from rfl)
  clear h hs hx hb0
  by_cases hr : RightL l
  · rw [decide_eq_true hr] at HC
    have HR := Lib.hid hr
    clear hr
    go_enter Tryd.func16, Tryd.ntmps16
    go_wp2_with fail
    refine (HC.out).mono ?_
    rintro e w1 ⟨rfl, hb⟩
    have HB1 := Lib.hid (HB0.out.trans (hb.mono HB0.out.size))
    have HE1 := Lib.hid (RowN.below HE.out hb)
    have HR1 := Lib.hid (HR0.out.below hb)
    clear hb
    have c0 := HR1.out.c0
    have c1 := HR1.out.c1
    have c2 := HR1.out.c2
    go_wp2_with fail
    refine (HXR.out _).mono ?_
    rintro e w2 ⟨rfl, hb⟩
    have HB2 := Lib.hid (HB1.out.trans (hb.mono HB1.out.size))
    have HE2 := Lib.hid (RowN.below HE1.out hb)
    have HR2 := Lib.hid (HR1.out.below hb)
    clear hb c0 c1 c2
    cases hv : rightE x.1 x.2.1 x.2.2 with
    | false =>
      have HV := Lib.hid (ptV_bad (l := l) (e := x) (fun h9 => by rw [HRX.out, hv] at h9; cases h9.2))
      clear hv
      go_wp2
      go_ret2
      exact ⟨none, 0, .iface 52 (.int .i64 1), by rw [HV.out]; rfl, by rw [HV.out]; exact ents_nil _ _ _, by rw [HV.out]; exact er_no _ _ (by decide), HB2.out⟩
    | true =>
      have HOK := Lib.hid (show RightL l ∧ rE x = true from ⟨HR.out, hv⟩)
      clear hv
      have c0 := HR2.out.c0
      go_wp2_with fail
      refine (place9 l a cap x.1 _ HE2.out HR.out.2.2.1 HSM.out.1).mono ?_
      rintro e w3 ⟨rfl, hb⟩
      have HB3 := Lib.hid (HB2.out.trans (hb.mono HB2.out.size))
      have HE3 := Lib.hid (RowN.below HE2.out hb)
      have HR3 := Lib.hid (HR2.out.below hb)
      clear hb c0
      have c0 := HR3.out.c0
      have c1 := HR3.out.c1
      have c2 := HR3.out.c2
      have HKS : Hid (∀ X, Below w3.heap.size w3 X → X.cell? ⟨N, 0, none⟩ = some (.string x.1) ∧ X.cell? ⟨N, 1, none⟩ = some (.int .i64 x.2.1) ∧ X.cell? ⟨N, 2, none⟩ = some (.string x.2.2)) := fun X hX => ⟨(HR3.out.below hX).c0, (HR3.out.below hX).c1, (HR3.out.below hX).c2⟩
      obtain ⟨K, hK⟩ : ∃ K, plc l x.1.data.toList = K := ⟨_, rfl⟩
      have HKL := Lib.hid (show K ≤ l.length by rw [← hK]; exact plc_le _ _)
      have HCAP := Lib.hid HE3.out.1
      obtain ⟨o, ho⟩ : ∃ o, wth l x = o := ⟨_, rfl⟩
      have HOS := Lib.hid (show Sm o from ⟨by rw [← ho]; have := wth_len l x; have := HR.out.1; omega, fun e he => by
        rw [← ho] at he
        rcases mem_wth.1 he with rfl | ⟨h9, _⟩
        · exact HSX.out
        · exact HSM.out.2 e h9⟩)
      obtain ⟨r, hr⟩ : ∃ r, (if RightL o then o else []) = r := ⟨_, rfl⟩
      have HRR := Lib.hid hr
      have HA2 : Hid (∀ X a4 cap4, Ents X a4 cap4 o → Below w3.heap.size w3 X → Calls Tryd.prog 39 #[.slice a4 o.length cap4] X fun e w' => ∃ a5 cap5 er, e = .returned (.tuple #[.slice a5 r.length cap5, er]) ∧ Ents w' a5 cap5 r ∧ Er w' (if RightL o then 0 else 16) er ∧ Below w3.heap.size w3 w') := fun X a4 cap4 h4 hX => by
        refine (checked9 o a4 cap4 X h4 HOS.out).mono ?_
        rw [HRR.out]
        rintro e w' ⟨a5, cap5, er, rfl, h5, her, hb⟩
        exact ⟨a5, cap5, er, rfl, h5, her, hX.trans (hb.mono hX.size)⟩
      clear hr
      cases hf : fnd l (pl x) with
      | some y =>
        have HV := Lib.hid (ptV_go HOK.out (fun h9 => by rw [hf] at h9; cases h9.1))
        have HWO := Lib.hid (wth_old HR.out.2.2.1 hf)
        rw [show (some y).isSome = true from rfl]
        obtain ⟨hk, _, _⟩ := plc_some HR.out.2.2.1 hf
        rw [ho] at HV HWO
        simp only [show plc l (pl x) = K from hK] at hk HWO
        rw [hK]
        obtain ⟨b, off, rfl, _, _⟩ := Ents.at HE3.out (Below.refl _ _) hk
        have HOF := Lib.hid (show o = [l.take K, [x], l.drop (K + 1)].flatten by rw [HWO.out]; simp)
        have HL1 := Lib.hid (show (l.take K).length = K by rw [List.length_take]; omega)
        have HL3 := Lib.hid (show (l.drop (K + 1)).length = l.length - (K + 1) by rw [List.length_drop])
        have k1 : (K : Int) ≤ (cap : Int) := by have := HCAP.out; omega
        have k2 : (K : Int) + 1 ≤ (l.length : Int) := by omega
        have k3 : IntKind.i64.wrap ((K : Int) + 1) = (K : Int) + 1 := IntWalk.i64_in _ (by have := HSM.out.1; omega)
        have k4 : (0 : Int) ≤ (K : Int) + 1 := by omega
        have k5 : ((K : Int) + 1).toNat = K + 1 := by omega
        have k6 : (l.length : Int) ≤ (cap : Int) := by have := HCAP.out; omega
        clear hf hK ho
        by_cases hcap : cap = K + 1
        · subst hcap
          have k7 : (K : Int) ≤ (K : Int) + 1 := by omega
          have k8 : (l.length : Int) ≤ (K : Int) + 1 := by have := HCAP.out; omega
          have HCC := Lib.hid (concat9 [(l.take K), [x], (l.drop (K + 1))] _ _ _ (stk3_new w3 (some ⟨b, off, none⟩) (some ⟨b, off, none⟩) (K + 1) 0 (l.take K) (l.drop (K + 1)) x (Ents.take HE3.out K) (by rw [List.drop_eq_nil_iff.2 HCAP.out]; exact ents_nil _ _ _)).1 (by simp) (by rw [← HOF.out]; have := HOS.out.1; omega))
          have HBW := Lib.hid (stk3_new w3 (some ⟨b, off, none⟩) (some ⟨b, off, none⟩) (K + 1) 0 (l.take K) (l.drop (K + 1)) x (Ents.take HE3.out K) (by rw [List.drop_eq_nil_iff.2 HCAP.out]; exact ents_nil _ _ _)).2
          simp only [← HOF.out] at HCC
          rw [HL1.out, HL3.out] at HCC HBW
          have HA1 : Hid (Calls Tryd.prog 40 #[.slice (some ⟨w3.heap.size + 1, 0, none⟩) 3 3] (W3 w3 (some ⟨b, off, none⟩) (some ⟨b, off, none⟩) K (l.length - (K + 1)) (K + 1) 0 x) fun e w' => ∃ a4 cap4, e = .returned (.slice a4 o.length cap4) ∧ Ents w' a4 cap4 o ∧ Below w3.heap.size w3 w') := by
            refine HCC.out.mono ?_
            rintro e w' ⟨a4, cap4, rfl, h4, hb⟩
            exact ⟨a4, cap4, rfl, h4, HBW.out.trans (hb.mono HBW.out.size)⟩
          unfold W3 at HA1
          clear HCC HBW
          go_wp2_with fail
          go_region_held3 (fun X => X.cell? ⟨N, 0, none⟩ = some (.string x.1) ∧ X.cell? ⟨N, 1, none⟩ = some (.int .i64 x.2.1) ∧ X.cell? ⟨N, 2, none⟩ = some (.string x.2.2))
            ((with_reducible refine HKS.out _ ?_; (first | with_reducible assumption | with_reducible exact Below.refl _ _ | with_reducible exact (Below.refl _ _).drew | with_reducible exact (Below.refl _ _).alloc (Nat.le_refl _) _ | with_reducible exact ((Below.refl _ _).drew).alloc (Nat.le_refl _) _ | with_reducible exact ((Below.refl _ _).alloc (Nat.le_refl _) _).drew | exact (((Below.refl _ _).alloc (Nat.le_refl _) _).alloc (by simp) _) | exact (((Below.refl _ _).alloc (Nat.le_refl _) _).alloc (by simp) _).drew)))
            (first
            | (go_at_call 40; with_reducible refine (HA1.out).mono ?_; rintro e w4 ⟨a4, cap4, rfl, h4, hB4⟩)
            | (go_at_call 39; with_reducible refine (HA2.out _ _ _ h4 hB4).mono ?_; rintro e w5 ⟨a5, cap5, er, rfl, h5, her, hB5⟩))
          all_goals
            have HB5 := Lib.hid (HB3.out.trans (hB5.mono HB3.out.size))
            have HE5 := Lib.hid h5
            have HER := Lib.hid her
            clear h4 hB4 h5 her hB5
            go_wp2
            go_ret2
            exact ⟨a5, cap5, er, by rw [HV.out, HRR.out]; rfl, by rw [HV.out, HRR.out]; exact HE5.out, by rw [HV.out]; exact HER.out, HB5.out⟩
        · have HCC := Lib.hid (concat9 [(l.take K), [x], (l.drop (K + 1))] _ _ _ (stk3_new w3 (some ⟨b, off, none⟩) (some ⟨b, off + (K + 1) * 3, none⟩) cap (cap - (K + 1)) (l.take K) (l.drop (K + 1)) x (Ents.take HE3.out K) (Ents.drop HE3.out (K + 1) (by omega))).1 (by simp) (by rw [← HOF.out]; have := HOS.out.1; omega))
          have HBW := Lib.hid (stk3_new w3 (some ⟨b, off, none⟩) (some ⟨b, off + (K + 1) * 3, none⟩) cap (cap - (K + 1)) (l.take K) (l.drop (K + 1)) x (Ents.take HE3.out K) (Ents.drop HE3.out (K + 1) (by omega))).2
          simp only [← HOF.out] at HCC
          rw [HL1.out, HL3.out] at HCC HBW
          have HA1 : Hid (Calls Tryd.prog 40 #[.slice (some ⟨w3.heap.size + 1, 0, none⟩) 3 3] (W3 w3 (some ⟨b, off, none⟩) (some ⟨b, off + (K + 1) * 3, none⟩) K (l.length - (K + 1)) cap (cap - (K + 1)) x) fun e w' => ∃ a4 cap4, e = .returned (.slice a4 o.length cap4) ∧ Ents w' a4 cap4 o ∧ Below w3.heap.size w3 w') := by
            refine HCC.out.mono ?_
            rintro e w' ⟨a4, cap4, rfl, h4, hb⟩
            exact ⟨a4, cap4, rfl, h4, HBW.out.trans (hb.mono HBW.out.size)⟩
          unfold W3 at HA1
          clear HCC HBW
          go_wp2_with fail
          go_region_held3 (fun X => X.cell? ⟨N, 0, none⟩ = some (.string x.1) ∧ X.cell? ⟨N, 1, none⟩ = some (.int .i64 x.2.1) ∧ X.cell? ⟨N, 2, none⟩ = some (.string x.2.2))
            ((with_reducible refine HKS.out _ ?_; (first | with_reducible assumption | with_reducible exact Below.refl _ _ | with_reducible exact (Below.refl _ _).drew | with_reducible exact (Below.refl _ _).alloc (Nat.le_refl _) _ | with_reducible exact ((Below.refl _ _).drew).alloc (Nat.le_refl _) _ | with_reducible exact ((Below.refl _ _).alloc (Nat.le_refl _) _).drew | exact (((Below.refl _ _).alloc (Nat.le_refl _) _).alloc (by simp) _) | exact (((Below.refl _ _).alloc (Nat.le_refl _) _).alloc (by simp) _).drew)))
            (first
            | (go_at_call 40; with_reducible refine (HA1.out).mono ?_; rintro e w4 ⟨a4, cap4, rfl, h4, hB4⟩)
            | (go_at_call 39; with_reducible refine (HA2.out _ _ _ h4 hB4).mono ?_; rintro e w5 ⟨a5, cap5, er, rfl, h5, her, hB5⟩))
          all_goals
            have HB5 := Lib.hid (HB3.out.trans (hB5.mono HB3.out.size))
            have HE5 := Lib.hid h5
            have HER := Lib.hid her
            clear h4 hB4 h5 her hB5
            go_wp2
            go_ret2
            exact ⟨a5, cap5, er, by rw [HV.out, HRR.out]; rfl, by rw [HV.out, HRR.out]; exact HE5.out, by rw [HV.out]; exact HER.out, HB5.out⟩
      | none =>
        rw [show (none : Option Ent).isSome = false from rfl]
        rw [hK]
        by_cases h64 : l.length = 64
        · have HV := Lib.hid (ptV_full HOK.out hf h64)
          have g64 : ((l.length : Int) == 64) = true := by rw [h64]; rfl
          clear hf hK ho h64
          go_wp2
          go_ret2
          exact ⟨none, 0, .iface 52 (.int .i64 9), by rw [HV.out]; rfl, by rw [HV.out]; exact ents_nil _ _ _, by rw [HV.out]; exact er_no _ _ (by decide), HB3.out⟩
        · have HV := Lib.hid (ptV_go HOK.out (fun h9 => h64 h9.2))
          have HWO := Lib.hid (wth_new HR.out.2.2.1 hf)
          have g64 : ((l.length : Int) == 64) = false := by rw [beq_eq_false_iff_ne]; omega
          rw [ho] at HV HWO
          rw [show plc l (pl x) = K from hK] at HWO
          have HOF := Lib.hid (show o = [l.take K, [x], l.drop K].flatten by rw [HWO.out]; simp)
          have HL1 := Lib.hid (show (l.take K).length = K by rw [List.length_take]; have := HKL.out; omega)
          have HL3 := Lib.hid (show (l.drop K).length = l.length - K by rw [List.length_drop])
          have k1 : (K : Int) ≤ (cap : Int) := by have := HCAP.out; have := HKL.out; omega
          have k2 : (K : Int) ≤ (l.length : Int) := by have := HKL.out; omega
          have k6 : (l.length : Int) ≤ (cap : Int) := by have := HCAP.out; omega
          clear hf ho h64
          by_cases hl0 : l = []
          · subst hl0
            obtain rfl : K = 0 := by rw [← hK]; rfl
            clear hK
            have HOF0 := Lib.hid (show o = [([] : List Ent), [x], []].flatten by rw [HWO.out]; rfl)
            clear HOF
            have HOF := HOF0
            have HL10 := Lib.hid (show ([] : List Ent).length = 0 from rfl)
            clear HL1 HL3
            rcases a with _ | ⟨b, off, sp⟩
            · have HCC := Lib.hid (concat9 [([] : List Ent), [x], ([] : List Ent)] _ _ _ (stk3_new w3 none none cap cap ([] : List Ent) ([] : List Ent) x (ents_nil _ _ _) (ents_nil _ _ _)).1 (by simp) (by rw [← HOF.out]; have := HOS.out.1; omega))
              have HBW := Lib.hid (stk3_new w3 none none cap cap ([] : List Ent) ([] : List Ent) x (ents_nil _ _ _) (ents_nil _ _ _)).2
              simp only [← HOF.out] at HCC
              rw [HL10.out] at HCC HBW
              have HA1 : Hid (Calls Tryd.prog 40 #[.slice (some ⟨w3.heap.size + 1, 0, none⟩) 3 3] (W3 w3 none none 0 0 cap cap x) fun e w' => ∃ a4 cap4, e = .returned (.slice a4 o.length cap4) ∧ Ents w' a4 cap4 o ∧ Below w3.heap.size w3 w') := by
                refine HCC.out.mono ?_
                rintro e w' ⟨a4, cap4, rfl, h4, hb⟩
                exact ⟨a4, cap4, rfl, h4, HBW.out.trans (hb.mono HBW.out.size)⟩
              unfold W3 at HA1
              clear HCC HBW
              go_wp2_with fail
              go_region_held3 (fun X => X.cell? ⟨N, 0, none⟩ = some (.string x.1) ∧ X.cell? ⟨N, 1, none⟩ = some (.int .i64 x.2.1) ∧ X.cell? ⟨N, 2, none⟩ = some (.string x.2.2))
                ((with_reducible refine HKS.out _ ?_; (first | with_reducible assumption | with_reducible exact Below.refl _ _ | with_reducible exact (Below.refl _ _).drew | with_reducible exact (Below.refl _ _).alloc (Nat.le_refl _) _ | with_reducible exact ((Below.refl _ _).drew).alloc (Nat.le_refl _) _ | with_reducible exact ((Below.refl _ _).alloc (Nat.le_refl _) _).drew | exact (((Below.refl _ _).alloc (Nat.le_refl _) _).alloc (by simp) _) | exact (((Below.refl _ _).alloc (Nat.le_refl _) _).alloc (by simp) _).drew)))
                (first
                | (go_at_call 40; with_reducible refine (HA1.out).mono ?_; rintro e w4 ⟨a4, cap4, rfl, h4, hB4⟩)
                | (go_at_call 39; with_reducible refine (HA2.out _ _ _ h4 hB4).mono ?_; rintro e w5 ⟨a5, cap5, er, rfl, h5, her, hB5⟩))
              all_goals
                have HB5 := Lib.hid (HB3.out.trans (hB5.mono HB3.out.size))
                have HE5 := Lib.hid h5
                have HER := Lib.hid her
                clear h4 hB4 h5 her hB5
                go_wp2
                go_ret2
                exact ⟨a5, cap5, er, by rw [HV.out, HRR.out]; rfl, by rw [HV.out, HRR.out]; exact HE5.out, by rw [HV.out]; exact HER.out, HB5.out⟩
            · have HCC := Lib.hid (concat9 [([] : List Ent), [x], ([] : List Ent)] _ _ _ (stk3_new w3 (some ⟨b, off, sp⟩) (some ⟨b, off, sp⟩) cap cap ([] : List Ent) ([] : List Ent) x (ents_nil _ _ _) (ents_nil _ _ _)).1 (by simp) (by rw [← HOF.out]; have := HOS.out.1; omega))
              have HBW := Lib.hid (stk3_new w3 (some ⟨b, off, sp⟩) (some ⟨b, off, sp⟩) cap cap ([] : List Ent) ([] : List Ent) x (ents_nil _ _ _) (ents_nil _ _ _)).2
              simp only [← HOF.out] at HCC
              rw [HL10.out] at HCC HBW
              have HA1 : Hid (Calls Tryd.prog 40 #[.slice (some ⟨w3.heap.size + 1, 0, none⟩) 3 3] (W3 w3 (some ⟨b, off, sp⟩) (some ⟨b, off, sp⟩) 0 0 cap cap x) fun e w' => ∃ a4 cap4, e = .returned (.slice a4 o.length cap4) ∧ Ents w' a4 cap4 o ∧ Below w3.heap.size w3 w') := by
                refine HCC.out.mono ?_
                rintro e w' ⟨a4, cap4, rfl, h4, hb⟩
                exact ⟨a4, cap4, rfl, h4, HBW.out.trans (hb.mono HBW.out.size)⟩
              unfold W3 at HA1
              clear HCC HBW
              go_wp2_with fail
              go_region_held3 (fun X => X.cell? ⟨N, 0, none⟩ = some (.string x.1) ∧ X.cell? ⟨N, 1, none⟩ = some (.int .i64 x.2.1) ∧ X.cell? ⟨N, 2, none⟩ = some (.string x.2.2))
                ((with_reducible refine HKS.out _ ?_; (first | with_reducible assumption | with_reducible exact Below.refl _ _ | with_reducible exact (Below.refl _ _).drew | with_reducible exact (Below.refl _ _).alloc (Nat.le_refl _) _ | with_reducible exact ((Below.refl _ _).drew).alloc (Nat.le_refl _) _ | with_reducible exact ((Below.refl _ _).alloc (Nat.le_refl _) _).drew | exact (((Below.refl _ _).alloc (Nat.le_refl _) _).alloc (by simp) _) | exact (((Below.refl _ _).alloc (Nat.le_refl _) _).alloc (by simp) _).drew)))
                (first
                | (go_at_call 40; with_reducible refine (HA1.out).mono ?_; rintro e w4 ⟨a4, cap4, rfl, h4, hB4⟩)
                | (go_at_call 39; with_reducible refine (HA2.out _ _ _ h4 hB4).mono ?_; rintro e w5 ⟨a5, cap5, er, rfl, h5, her, hB5⟩))
              all_goals
                have HB5 := Lib.hid (HB3.out.trans (hB5.mono HB3.out.size))
                have HE5 := Lib.hid h5
                have HER := Lib.hid her
                clear h4 hB4 h5 her hB5
                go_wp2
                go_ret2
                exact ⟨a5, cap5, er, by rw [HV.out, HRR.out]; rfl, by rw [HV.out, HRR.out]; exact HE5.out, by rw [HV.out]; exact HER.out, HB5.out⟩
          · obtain ⟨b, off, rfl, _, _⟩ := Ents.at HE3.out (Below.refl _ _) (show 0 < l.length from List.length_pos_iff.2 hl0)
            clear hK
            by_cases hcap : cap = K
            · subst hcap
              have HCC := Lib.hid (concat9 [(l.take cap), [x], (l.drop cap)] _ _ _ (stk3_new w3 (some ⟨b, off, none⟩) (some ⟨b, off, none⟩) cap 0 (l.take cap) (l.drop cap) x (Ents.take HE3.out cap) (by rw [List.drop_eq_nil_iff.2 HCAP.out]; exact ents_nil _ _ _)).1 (by simp) (by rw [← HOF.out]; have := HOS.out.1; omega))
              have HBW := Lib.hid (stk3_new w3 (some ⟨b, off, none⟩) (some ⟨b, off, none⟩) cap 0 (l.take cap) (l.drop cap) x (Ents.take HE3.out cap) (by rw [List.drop_eq_nil_iff.2 HCAP.out]; exact ents_nil _ _ _)).2
              simp only [← HOF.out] at HCC
              rw [HL1.out, HL3.out] at HCC HBW
              have HA1 : Hid (Calls Tryd.prog 40 #[.slice (some ⟨w3.heap.size + 1, 0, none⟩) 3 3] (W3 w3 (some ⟨b, off, none⟩) (some ⟨b, off, none⟩) cap (l.length - cap) cap 0 x) fun e w' => ∃ a4 cap4, e = .returned (.slice a4 o.length cap4) ∧ Ents w' a4 cap4 o ∧ Below w3.heap.size w3 w') := by
                refine HCC.out.mono ?_
                rintro e w' ⟨a4, cap4, rfl, h4, hb⟩
                exact ⟨a4, cap4, rfl, h4, HBW.out.trans (hb.mono HBW.out.size)⟩
              unfold W3 at HA1
              clear HCC HBW
              go_wp2_with fail
              go_region_held3 (fun X => X.cell? ⟨N, 0, none⟩ = some (.string x.1) ∧ X.cell? ⟨N, 1, none⟩ = some (.int .i64 x.2.1) ∧ X.cell? ⟨N, 2, none⟩ = some (.string x.2.2))
                ((with_reducible refine HKS.out _ ?_; (first | with_reducible assumption | with_reducible exact Below.refl _ _ | with_reducible exact (Below.refl _ _).drew | with_reducible exact (Below.refl _ _).alloc (Nat.le_refl _) _ | with_reducible exact ((Below.refl _ _).drew).alloc (Nat.le_refl _) _ | with_reducible exact ((Below.refl _ _).alloc (Nat.le_refl _) _).drew | exact (((Below.refl _ _).alloc (Nat.le_refl _) _).alloc (by simp) _) | exact (((Below.refl _ _).alloc (Nat.le_refl _) _).alloc (by simp) _).drew)))
                (first
                | (go_at_call 40; with_reducible refine (HA1.out).mono ?_; rintro e w4 ⟨a4, cap4, rfl, h4, hB4⟩)
                | (go_at_call 39; with_reducible refine (HA2.out _ _ _ h4 hB4).mono ?_; rintro e w5 ⟨a5, cap5, er, rfl, h5, her, hB5⟩))
              all_goals
                have HB5 := Lib.hid (HB3.out.trans (hB5.mono HB3.out.size))
                have HE5 := Lib.hid h5
                have HER := Lib.hid her
                clear h4 hB4 h5 her hB5
                go_wp2
                go_ret2
                exact ⟨a5, cap5, er, by rw [HV.out, HRR.out]; rfl, by rw [HV.out, HRR.out]; exact HE5.out, by rw [HV.out]; exact HER.out, HB5.out⟩
            · have HCC := Lib.hid (concat9 [(l.take K), [x], (l.drop K)] _ _ _ (stk3_new w3 (some ⟨b, off, none⟩) (some ⟨b, off + K * 3, none⟩) cap (cap - K) (l.take K) (l.drop K) x (Ents.take HE3.out K) (Ents.drop HE3.out K HKL.out)).1 (by simp) (by rw [← HOF.out]; have := HOS.out.1; omega))
              have HBW := Lib.hid (stk3_new w3 (some ⟨b, off, none⟩) (some ⟨b, off + K * 3, none⟩) cap (cap - K) (l.take K) (l.drop K) x (Ents.take HE3.out K) (Ents.drop HE3.out K HKL.out)).2
              simp only [← HOF.out] at HCC
              rw [HL1.out, HL3.out] at HCC HBW
              have HA1 : Hid (Calls Tryd.prog 40 #[.slice (some ⟨w3.heap.size + 1, 0, none⟩) 3 3] (W3 w3 (some ⟨b, off, none⟩) (some ⟨b, off + K * 3, none⟩) K (l.length - K) cap (cap - K) x) fun e w' => ∃ a4 cap4, e = .returned (.slice a4 o.length cap4) ∧ Ents w' a4 cap4 o ∧ Below w3.heap.size w3 w') := by
                refine HCC.out.mono ?_
                rintro e w' ⟨a4, cap4, rfl, h4, hb⟩
                exact ⟨a4, cap4, rfl, h4, HBW.out.trans (hb.mono HBW.out.size)⟩
              unfold W3 at HA1
              clear HCC HBW
              go_wp2_with fail
              go_region_held3 (fun X => X.cell? ⟨N, 0, none⟩ = some (.string x.1) ∧ X.cell? ⟨N, 1, none⟩ = some (.int .i64 x.2.1) ∧ X.cell? ⟨N, 2, none⟩ = some (.string x.2.2))
                ((with_reducible refine HKS.out _ ?_; (first | with_reducible assumption | with_reducible exact Below.refl _ _ | with_reducible exact (Below.refl _ _).drew | with_reducible exact (Below.refl _ _).alloc (Nat.le_refl _) _ | with_reducible exact ((Below.refl _ _).drew).alloc (Nat.le_refl _) _ | with_reducible exact ((Below.refl _ _).alloc (Nat.le_refl _) _).drew | exact (((Below.refl _ _).alloc (Nat.le_refl _) _).alloc (by simp) _) | exact (((Below.refl _ _).alloc (Nat.le_refl _) _).alloc (by simp) _).drew)))
                (first
                | (go_at_call 40; with_reducible refine (HA1.out).mono ?_; rintro e w4 ⟨a4, cap4, rfl, h4, hB4⟩)
                | (go_at_call 39; with_reducible refine (HA2.out _ _ _ h4 hB4).mono ?_; rintro e w5 ⟨a5, cap5, er, rfl, h5, her, hB5⟩))
              all_goals
                have HB5 := Lib.hid (HB3.out.trans (hB5.mono HB3.out.size))
                have HE5 := Lib.hid h5
                have HER := Lib.hid her
                clear h4 hB4 h5 her hB5
                go_wp2
                go_ret2
                exact ⟨a5, cap5, er, by rw [HV.out, HRR.out]; rfl, by rw [HV.out, HRR.out]; exact HE5.out, by rw [HV.out]; exact HER.out, HB5.out⟩
  · rw [decide_eq_false hr] at HC
    have HV := Lib.hid (ptV_bad (l := l) (e := x) (fun h9 => hr h9.1))
    clear hr
    go_enter Tryd.func16, Tryd.ntmps16
    go_wp2_with fail
    refine (HC.out).mono ?_
    rintro e w1 ⟨rfl, hb⟩
    have HB1 := Lib.hid (HB0.out.trans (hb.mono HB0.out.size))
    clear hb
    go_wp2
    go_ret2
    exact ⟨none, 0, .iface 52 (.int .i64 1), by rw [HV.out]; rfl, by rw [HV.out]; exact ents_nil _ _ _, by rw [HV.out]; exact er_no _ _ (by decide), HB1.out⟩
end Go.Proofs.YtflomllfehoedaaDoor

namespace Go.Proofs.YtflomllfehoedaaDoor
open Go.RowKit

/-- Bytes begin with so many right entries, and how many. -/
def Ens9 (s : List UInt8) (l : List Ent) (rest : List UInt8) : Prop := s = dg l.length ++ (ensB l ++ rest) ∧ l.length ≤ 64 ∧ ∀ e ∈ l, rE e = true
theorem ens9_inj {s : List UInt8} {l m : List Ent} {x y : List UInt8} (h1 : Ens9 s l x) (h2 : Ens9 s m y) : l = m ∧ x = y := by
  obtain ⟨a1, _, a3⟩ := h1
  obtain ⟨b1, _, b3⟩ := h2
  obtain ⟨c1, c2⟩ := dg_cut _ _ _ _ (a1.symm.trans b1)
  exact ensB_inj c1 a3 b3 c2
theorem ens9_stop {s : List UInt8} {n k : Nat} {o : List Ent} {rest : List UInt8} (hs : s = dg n ++ (ensB o ++ rest)) (ho : o.length = k) (hk : k < n) (hr : ∀ e ∈ o, rE e = true) (hn : ∀ x k y r, ¬ Ent8 rest x k y r) : ∀ l x, ¬ Ens9 s l x := fun l x h => by
  obtain ⟨a1, _, a3⟩ := h
  obtain ⟨c1, c2⟩ := dg_cut _ _ _ _ (hs.symm.trans a1)
  have hkl : k < l.length := by omega
  have he : ensB l = ensB (l.take k) ++ (enB l[k] ++ ensB (l.drop (k + 1))) := by
    conv => lhs; rw [← List.take_append_drop k l, List.drop_eq_getElem_cons hkl]
    unfold ensB
    rw [List.flatMap_append, List.flatMap_cons]
  rw [he, List.append_assoc] at c2
  obtain ⟨_, c3⟩ := ensB_inj (by rw [List.length_take]; omega) hr (fun e he => a3 e (List.mem_of_mem_take he)) c2
  have hx := a3 _ (List.getElem_mem hkl)
  unfold rE at hx
  obtain ⟨_, h2, _⟩ := rightE_parts hx
  refine hn l[k].1 l[k].2.1.toNat l[k].2.2 (ensB (l.drop (k + 1)) ++ x) ⟨?_, ?_⟩
  · rw [c3, List.append_assoc]
    rfl
  · rw [Int.toNat_of_nonneg (by omega)]
    exact hx
theorem ens9_snoc {s : List UInt8} {n : Nat} {o : List Ent} {x : ByteArray} {k : Nat} {y : ByteArray} {rest r : List UInt8} (hs : s = dg n ++ (ensB o ++ rest)) (he : Ent8 rest x k y r) : s = dg n ++ (ensB (o ++ [(x, (k : Int), y)]) ++ r) := by
  rw [hs, he.1]
  unfold ensB
  rw [List.flatMap_append, List.append_assoc]
  simp [enB]
theorem Rd.kept {w w' : World} {p : Nat} {s : ByteArray} (h : Rd w p s) (hs : w.heap.size ≤ w'.heap.size) (hb : w'.heap[p]? = w.heap[p]?) : Rd w' p s := by
  obtain ⟨h1, h2, h3⟩ := h
  refine ⟨Nat.lt_of_lt_of_le h1 hs, ?_, ?_⟩
  · rw [← h2]
    simp [World.cell?, hb]
  · rw [← h3]
    simp [World.frozen?, hb]
theorem OwnE.kp {w w' : World} {B p : Nat} {v : Value} {l : List Ent} (h : OwnE w B v l) (hk : Kp p w w') (hp : p < B) : OwnE w' B v l := ownE_gen h fun k hk' => hk.2 k (ownE_blk h k hk').2 (by have := (ownE_blk h k hk').1; omega)
set_option maxRecDepth 10000 in
set_option maxHeartbeats 4000000 in
theorem entries9 (s : ByteArray) (hz : s.size ≤ 100000) (p : Nat) (w : World) (hp : Rd w p s) :
    Calls Tryd.prog 36 #[.pointer (some ⟨p, 0, none⟩)] w fun e w' => ((∃ a cap l rest, Ens9 s.data.toList l rest ∧ e = .returned (.tuple #[.slice a l.length cap, .nilIface]) ∧ Ents w' a cap l ∧ Rd w' p (bs rest)) ∨ ((∀ l rest, ¬ Ens9 s.data.toList l rest) ∧ e = .returned (.tuple #[.slice none 0 0, .iface 52 (.int .i64 13)]))) ∧ Below p w w' := by
  have HZ := Lib.hid hz
  have HP := Lib.hid hp
  have HPW := Lib.hid (show p < w.heap.size from hp.1)
  clear hz hp
  rcases bad_or s 64 with hb | ⟨n, r0, hs, hn, hm⟩
  · have HX := Lib.hid (show ∀ l rest, ¬ Ens9 s.data.toList l rest from fun l rest h => hb l.length _ h.1 (by have := h.2.1; omega) (by have := h.2.1; omega))
    have HC := Lib.hid (rNum_bad 64 s hb (by have := HZ.out; omega) p w HP.out)
    clear hb
    go_enter Tryd.func36, Tryd.ntmps36
    go_wp2_with fail
    refine (HC.out).mono ?_
    rintro e w1 ⟨rfl, hb⟩
    have HB1 := Lib.hid (hb.mono (Nat.le_of_lt HPW.out))
    clear hb
    go_wp2
    go_ret2
    exact ⟨.inr ⟨HX.out, rfl⟩, HB1.out⟩
  · have HC := Lib.hid (rNum_good n 64 s r0 hs (by have := HZ.out; omega) hn hm p w HP.out)
    have HS := Lib.hid hs
    have HM := Lib.hid (show n ≤ 64 by omega)
    clear hs hn hm
    go_enter Tryd.func36, Tryd.ntmps36
    go_wp2_with fail
    refine (HC.out).mono ?_
    rintro e w1 ⟨rfl, hb⟩
    have HB1 := Lib.hid (below_next (Below.refl p w) (Nat.le_refl _) (Nat.le_of_lt HPW.out) hb)
    have HR1 := Lib.hid (HP.out.next hb)
    have HG1 := Lib.hid (show w.heap.size ≤ w1.heap.size by have := hb.size; simpa [World.setCell] using this)
    clear hb
    go_wp2
    go_loopg [6, 18] n (fun g v i wx => ∃ (k : Nat) (o : List Ent) (rest : List UInt8), i = .int .i64 (k : Int) ∧ k + g = n ∧ Hid (s.data.toList = dg n ++ (ensB o ++ rest) ∧ o.length = k ∧ ∀ e ∈ o, rE e = true) ∧ Hid (OwnE wx w.heap.size v o) ∧ Hid (Rd wx p (bs rest)) ∧ Hid (Below p w wx) ∧ Hid (w.heap.size ≤ wx.heap.size))
    case atStart => exact ⟨0, [], r0, rfl, by omega, ⟨HS.out, rfl, by simp⟩, ownE_nil _ _, HR1.out, HB1.out, HG1.out⟩
    case round =>
      obtain ⟨k, o, rest, rfl, hk, HI, HO, HR, HB, HG⟩ := hrel
      have hw : IntKind.i64.wrap ((k : Int) + 1) = (k : Int) + 1 := IntWalk.i64_in _ (by have := HM.out; omega)
      by_cases hlt : k < n
      · have hlt' : (k : Int) < (n : Int) := by omega
        have HRZ := Lib.hid (show (bs rest).size ≤ 100000 by
          have h1 := congrArg List.length HI.out.1
          rw [← Lib.size_eq] at h1
          simp only [List.length_append] at h1
          have := HZ.out
          rw [Lib.size_eq, bs_list]
          omega)
        have HCR := Lib.hid (read8K (bs rest) HRZ.out p wr HR.out)
        rw [bs_list] at HCR
        have HST := Lib.hid (fun h => ens9_stop HI.out.1 HI.out.2.1 hlt HI.out.2.2 h)
        go_wp2_with fail
        refine (HCR.out).mono ?_
        rintro e w2 ⟨⟨x, q, y, r, he, rfl, hrd⟩ | ⟨hno, rfl⟩, hb, hkp⟩
        · have HN := Lib.hid (show s.data.toList = dg n ++ (ensB (o ++ [(x, (q : Int), y)]) ++ r) ∧ (o ++ [(x, (q : Int), y)]).length = k + 1 ∧ ∀ e ∈ o ++ [(x, (q : Int), y)], rE e = true from ⟨ens9_snoc HI.out.1 he, by rw [List.length_append, HI.out.2.1]; rfl, fun e hm => by
            rcases List.mem_append.1 hm with hm | hm
            · exact HI.out.2.2 e hm
            · obtain rfl : e = (x, (q : Int), y) := by simpa using hm
              exact he.2⟩)
          have HB2 := Lib.hid (HB.out.trans hb)
          have HR2 := Lib.hid hrd
          have HO2 := Lib.hid (HO.out.kp hkp HPW.out)
          have HG2 := Lib.hid (Nat.le_trans HG.out hkp.1)
          have HOL := Lib.hid (show o.length ≤ 1000 by have := HI.out.2.1; have := HM.out; omega)
          clear he hb hkp hrd
          obtain ⟨W, hW⟩ : ∃ W, w2.alloc (.cells #[.string x, .int .i64 (q : Int), .string y] 38) = W := ⟨_, rfl⟩
          obtain ⟨M, hM⟩ : ∃ M, w2.heap.size = M := ⟨_, rfl⟩
          have hbW : Below w2.heap.size w2 W := by rw [← hW]; exact (Below.refl _ _).alloc (Nat.le_refl _) _
          have HBW := Lib.hid (HB2.out.trans (hbW.mono (Nat.le_trans (Nat.le_of_lt HPW.out) HG2.out)))
          have HRW := Lib.hid (HR2.out.below hbW)
          have HOW := Lib.hid (HO2.out.below hbW)
          have HGW := Lib.hid (Nat.le_trans HG2.out hbW.size)
          have HQ := Lib.hid (show EnAt W M x (q : Int) y by rw [← hW, ← hM]; exact enAt_new _ _ _ _)
          have q0 := HQ.out.c0
          have q1 := HQ.out.c1
          have q2 := HQ.out.c2
          clear hbW
          go_wp2_with (at_builtin; refine Stopped.go ?_)
          unfold Stopped
          refine wl_putE (by rfl) _ _ (by rfl) w.heap.size u6 o (x, (q : Int), y) (by rfl) (HOW.out.below ((Below.refl _ _).alloc (Nat.le_refl _) _)) (by have := HGW.out; simp; omega) W.heap.size (by rfl) (enAt_new W x (q : Int) y) HOL.out ?_
          intro v5 w5 ho5 hg5
          have HB5 := Lib.hid ((HBW.out.alloc (Nat.le_trans (Nat.le_of_lt HPW.out) HGW.out) (.cells #[.string x, .int .i64 (q : Int), .string y] 38)).grown hg5 (by have := HGW.out; have := HPW.out; simp; omega) (fun k hk => by have := (ownE_blk HOW.out k hk).1; have := HPW.out; omega))
          have HBB : Hid (Below W.heap.size W (W.alloc (.cells #[.string x, .int .i64 (q : Int), .string y] 38))) := (Below.refl _ _).alloc (Nat.le_refl _) _
          have HR5 := Lib.hid (show Rd w5 p (bs r) by
            have h1 := HRW.out.below HBB.out
            refine h1.kept hg5.size (hg5.block p h1.1 fun e => ?_)
            have := (ownE_blk HOW.out p e.symm).1
            have := HPW.out
            omega)
          have HG5 := Lib.hid (show w.heap.size ≤ w5.heap.size by have h1 := hg5.size; have h2 := HGW.out; simp at h1; omega)
          have HO5 := Lib.hid ho5
          clear ho5 hg5
          go_wp2
          go_roundg (gk - 1)
          case measure => omega
          case rel => exact ⟨k + 1, _, r, by simp, by omega, HN.out, HO5.out, HR5.out, HB5.out, HG5.out⟩
        · have HX := Lib.hid (HST.out hno)
          have HB2 := Lib.hid (HB.out.trans hb)
          have HG2 := Lib.hid (Nat.le_trans (Nat.le_trans (Nat.le_of_lt HPW.out) HG.out) hkp.1)
          clear hb hno hkp
          go_wp2
          go_ret2
          exact ⟨.inr ⟨HX.out, rfl⟩, HB2.out.alloc HG2.out _⟩
      · have hlt' : ¬ (k : Int) < (n : Int) := by omega
        have HX := Lib.hid (show Ens9 s.data.toList o rest by
          have h := HI.out
          refine ⟨?_, by have := HM.out; omega, h.2.2⟩
          rw [h.1, show n = o.length by omega])
        go_wp2
        go_ret2
        obtain ⟨a', cap', rfl, h2⟩ := ents_of_own HO.out
        exact ⟨.inl ⟨a', cap', o, rest, HX.out, rfl, h2, HR.out⟩, HB.out⟩
/-- Bytes ahead of the last four, and those. -/
theorem cut4 (s : ByteArray) (h : ¬ s.size ≤ 4) : s.data.toList = (s.extract 0 (s.size - 4)).data.toList ++ (s.extract (s.size - 4) s.size).data.toList ∧ (s.extract 0 (s.size - 4)).size = s.size - 4 ∧ (s.extract (s.size - 4) s.size).data.toList.length = 4 := by
  have hl : s.data.toList.length = s.size := (Lib.size_eq s).symm
  have h1 : (s.extract 0 (s.size - 4)).data.toList = s.data.toList.take (s.size - 4) := by rw [Lib.extract_data, List.drop_zero, Nat.sub_zero]
  have h2 : (s.extract (s.size - 4) s.size).data.toList = s.data.toList.drop (s.size - 4) := by rw [Lib.extract_data]; exact List.take_of_length_le (by rw [List.length_drop]; omega)
  refine ⟨?_, ?_, ?_⟩
  · rw [h1, h2, List.take_append_drop]
  · rw [Lib.size_eq, h1, List.length_take]; omega
  · rw [h2, List.length_drop]; omega
set_option maxRecDepth 10000 in
set_option maxHeartbeats 4000000 in
theorem read9 (s : ByteArray) (w : World) (hz : s.size ≤ 100000) : Calls Tryd.prog 14 #[.string s] w fun e w' => ∃ a cap er l n, e = .returned (.tuple #[.slice a l.length cap, er]) ∧ Ents w' a cap l ∧ Er w' n er ∧ ((n = 0 ∧ RightL l ∧ s = layL l) ∨ ((n = 12 ∨ n = 13) ∧ l = [] ∧ ∀ m, RightL m → s ≠ layL m)) ∧ Below w.heap.size w w' := by
  have HZ := Lib.hid hz
  by_cases h4 : s.size ≤ 4
  · have g4 : (s.size : Int) ≤ 4 := by omega
    have HX := Lib.hid (show ∀ m, RightL m → s ≠ layL m from fun m _ e => by have := layL_pos m; rw [← e] at this; omega)
    clear h4 hz
    go_enter Tryd.func14, Tryd.ntmps14
    go_wp2
    go_ret2
    exact ⟨none, 0, .iface 52 (.int .i64 12), [], 12, rfl, ents_nil _ _ _, er_no _ _ (by decide), .inr ⟨.inl rfl, rfl, HX.out⟩, Below.refl _ _⟩
  · have g4 : ¬ (s.size : Int) ≤ 4 := by omega
    obtain ⟨k1, k2, k3⟩ := cut4 s h4
    obtain ⟨m, hm⟩ : ∃ m, s.size - 4 = m := ⟨_, rfl⟩
    rw [hm] at k1 k2 k3
    have hsub : (s.size : Int) - 4 = (m : Int) := by omega
    have hwm : IntKind.i64.wrap (m : Int) = (m : Int) := IntWalk.i64_in _ (by omega)
    have hmn : ((m : Int)).toNat = m := by omega
    have hm1 : (m : Int) ≤ (s.size : Int) := by omega
    have hm0 : (0 : Int) ≤ (m : Int) := by omega
    obtain ⟨t, ht⟩ : ∃ t, s.extract 0 m = t := ⟨_, rfl⟩
    obtain ⟨u, hu⟩ : ∃ u, s.extract m s.size = u := ⟨_, rfl⟩
    rw [ht, hu] at k1
    rw [ht] at k2
    rw [hu] at k3
    have HTZ := Lib.hid (show t.size ≤ 100000 by omega)
    have HK1 := Lib.hid k1
    have HK3 := Lib.hid k3
    have HBD := Lib.hid (adl_bd t.data.toList)
    obtain ⟨q, hq⟩ : ∃ q, adl t.data.toList = q := ⟨_, rfl⟩
    rw [hq] at HBD
    have HQ := Lib.hid hq
    have HLAY := Lib.hid (show ∀ l, s = layL l → t.data.toList = layB l ∧ u.data.toList = (four q).data.toList from fun l e => by
      have h1 : s.data.toList = layT (layB l) := by rw [e, layL_list]
      unfold layT at h1
      rw [k1] at h1
      obtain ⟨h2, h3⟩ := List.append_inj' h1 (by rw [k3, four_len])
      rw [h2] at hq
      rw [hq] at h3
      exact ⟨h2, h3⟩)
    clear h4 hz k1 k2 k3 hm hq
    by_cases hf : u.data.toList = (four q).data.toList
    · have gf : ((four q).toList != u.toList) = false := by rw [Lib.toList_data, Lib.toList_data, hf]; simp
      have gf2 : ((four q).toList == u.toList) = true := by rw [Lib.toList_data, Lib.toList_data, hf]; simp
      have HT := Lib.hid (show s.data.toList = layT t.data.toList by rw [HK1.out, hf, ← HQ.out]; rfl)
      clear hf
      go_enter Tryd.func14, Tryd.ntmps14
      go_wp2
      go_quiet (fail)
      go_wp2_with fail
      refine (sum_any t _ (by unfold maxLen; have := HTZ.out; omega)).mono ?_
      rintro e w1 ⟨rfl, rfl⟩
      rw [HQ.out]
      go_wp2_with fail
      refine (four_any q _ HBD.out.1 HBD.out.2).mono ?_
      rintro e w2 ⟨rfl, hb⟩
      have HB2 := Lib.hid (show Below w.heap.size w w2 from (below_drewX (Below.refl w.heap.size w) _).trans hb)
      clear hb
      go_wp2_with fail
      refine (new_any t _).mono ?_
      rintro e w3 ⟨rfl, hrd, hb⟩
      have HB3 := Lib.hid (HB2.out.trans (hb.mono HB2.out.size))
      have HR3 := Lib.hid hrd
      have HS2 := Lib.hid HB2.out.size
      obtain ⟨p, hp⟩ : ∃ p, w2.heap.size = p := ⟨_, rfl⟩
      rw [hp] at HR3 HS2 ⊢
      clear hb hrd hp
      go_wp2_with fail
      refine (entries9 t HTZ.out p _ HR3.out).mono ?_
      rintro e w4 ⟨⟨a, cap, l, rest, hen, rfl, hE, hrd⟩ | ⟨hno, rfl⟩, hb⟩
      · have HB4 := Lib.hid (HB3.out.trans (hb.mono HS2.out))
        have HE4 := Lib.hid hE
        have HR4 := Lib.hid hrd
        have HEN := Lib.hid hen
        have HSM := Lib.hid (show Sm l from ⟨by have := hen.2.1; omega, fun e he => (sm_one (hen.2.2 e he)).2 e (by simp)⟩)
        have HSAME := Lib.hid (show ∀ m, RightL m → s = layL m → l = m ∧ rest = [] from fun m hm e => by
          have h1 := (HLAY.out m e).1
          exact ens9_inj hen (show Ens9 t.data.toList m [] from ⟨by rw [h1, List.append_nil]; rfl, hm.1, hm.2.1⟩))
        clear hb hE hrd hen
        by_cases h0 : rest = []
        · subst h0
          go_wp2_with fail
          refine (left_any (bs []) p _ HR4.out).mono ?_
          rintro e w5 ⟨rfl, rfl⟩
          rw [show (bs []).size = 0 from rfl]
          go_wp2_with fail
          refine (right9 l a cap _ HE4.out HSM.out).mono ?_
          rintro e w6 ⟨rfl, hb⟩
          have HB6 := Lib.hid (HB4.out.trans (hb.mono HB4.out.size))
          have HE6 := Lib.hid (RowN.below HE4.out hb)
          clear hb
          by_cases hr : RightL l
          · rw [decide_eq_true hr]
            have HOK := Lib.hid (show s = layL l by
              apply ba_ext
              rw [layL_list, HT.out, HEN.out.1, List.append_nil]
              rfl)
            have HRR := Lib.hid hr
            clear hr
            go_wp2
            go_ret2
            exact ⟨a, cap, .nilIface, l, 0, rfl, HE6.out, er_nil _, .inl ⟨rfl, HRR.out, HOK.out⟩, HB6.out⟩
          · rw [decide_eq_false hr]
            have HX := Lib.hid (show ∀ m, RightL m → s ≠ layL m from fun m hm e => hr ((HSAME.out m hm e).1 ▸ hm))
            clear hr
            go_wp2
            go_ret2
            exact ⟨none, 0, .iface 52 (.int .i64 13), [], 13, rfl, ents_nil _ _ _, er_no _ _ (by decide), .inr ⟨.inr rfl, rfl, HX.out⟩, HB6.out⟩
        · have HX := Lib.hid (show ∀ m, RightL m → s ≠ layL m from fun m hm e => h0 (HSAME.out m hm e).2)
          have HPOS := Lib.hid (show 0 < (bs rest).size by
            rw [Lib.size_eq, bs_list]
            exact List.length_pos_iff.2 h0)
          obtain ⟨z, hz⟩ : ∃ z, (bs rest).size = z := ⟨_, rfl⟩
          have g0 : (0 : Int) < (z : Int) := by have := HPOS.out; omega
          have HZZ := Lib.hid hz
          clear h0 hz
          go_wp2_with fail
          refine (left_any (bs rest) p _ HR4.out).mono ?_
          rintro e w5 ⟨rfl, rfl⟩
          rw [HZZ.out]
          go_wp2
          go_ret2
          exact ⟨none, 0, .iface 52 (.int .i64 13), [], 13, rfl, ents_nil _ _ _, er_no _ _ (by decide), .inr ⟨.inr rfl, rfl, HX.out⟩, HB4.out⟩
      · have HX := Lib.hid (show ∀ m, RightL m → s ≠ layL m from fun m hm e => hno m [] ⟨by rw [(HLAY.out m e).1, List.append_nil]; rfl, hm.1, hm.2.1⟩)
        have HB4 := Lib.hid (HB3.out.trans (hb.mono HS2.out))
        clear hb hno
        go_wp2
        go_ret2
        exact ⟨none, 0, .iface 52 (.int .i64 13), [], 13, rfl, ents_nil _ _ _, er_no _ _ (by decide), .inr ⟨.inr rfl, rfl, HX.out⟩, HB4.out⟩
    · have gf : ((four q).toList != u.toList) = true := by rw [Lib.toList_data, Lib.toList_data, bne_iff_ne]; exact fun e => hf e.symm
      have gf2 : ((four q).toList == u.toList) = false := by rw [Lib.toList_data, Lib.toList_data, beq_eq_false_iff_ne]; exact fun e => hf e.symm
      have HX := Lib.hid (show ∀ m, RightL m → s ≠ layL m from fun m _ e => hf (HLAY.out m e).2)
      clear hf
      go_enter Tryd.func14, Tryd.ntmps14
      go_wp2
      go_quiet (fail)
      go_wp2_with fail
      refine (sum_any t _ (by unfold maxLen; have := HTZ.out; omega)).mono ?_
      rintro e w1 ⟨rfl, rfl⟩
      rw [HQ.out]
      go_wp2_with fail
      refine (four_any q _ HBD.out.1 HBD.out.2).mono ?_
      rintro e w2 ⟨rfl, hb⟩
      have HB2 := Lib.hid (show Below w.heap.size w w2 from (below_drewX (Below.refl w.heap.size w) _).trans hb)
      clear hb
      go_wp2
      go_ret2
      exact ⟨none, 0, .iface 52 (.int .i64 12), [], 12, rfl, ents_nil _ _ _, er_no _ _ (by decide), .inr ⟨.inl rfl, rfl, HX.out⟩, HB2.out⟩
end Go.Proofs.YtflomllfehoedaaDoor

namespace Go.Proofs.YtflomllfehoedaaDoor
open Go.RowKit

theorem layer9 : Layer9 where
  right l a cap w _ h hs := right9 l a cap w h hs
  lay l a cap w _ h hs := lay9 l a cap w h hs
  read s w _ hz := read9 s w hz
  find l a cap p w _ h hs _ := find9 l a cap p w h hs
  below l a cap p w _ h hs hp := below9 l a cap p w h hs hp
  put l a cap x w _ h hs hx := put9 l a cap x w h hs hx
  drop l a cap p w _ h hs _ := drop9 l a cap p w h hs
end Go.Proofs.YtflomllfehoedaaDoor

namespace Go.Proofs.YtflomllfehoedaaDoor
open Go.RowKit

/-- What was there when the call began is as it was; errorType holds error's type. -/
structure St (W w : World) : Prop where
  below : Below W.heap.size W w
  et : EtLaid w
theorem st_self {w : World} (h : EtLaid w) : St w w := ⟨Below.refl _ _, h⟩
theorem St.next {W w w' : World} (h : St W w) (hb : Below w.heap.size w w') : St W w' := ⟨h.below.trans (hb.mono h.below.size), h.et.below h.et.lt hb⟩
theorem St.old {W w w' : World} (h : St W w) (hb : OldC w w') : St W w' := h.next hb
theorem lay_nil : (layL []).size = 5 := by
  rw [Lib.size_eq, layL_list, layT_len]
  unfold layB
  rw [List.length_append, List.length_nil, dg_last (by decide)]
  rfl
theorem lyV_nil : lyV [] = (0, layL []) := if_pos right_nil
set_option maxRecDepth 10000 in
theorem awake9 (L : Layer9) (w : World) (hg : EtLaid w) : Calls Tryd.prog 9 #[] w fun e w' => e = .returned (.bool true) ∧ Below w.heap.size w w' := by
  have HLay := Lib.hid (L.lay [] none 0 w hg (ents_nil _ _ _) sm_nil)
  have HG := Lib.hid hg
  have h5 := lay_nil
  rw [lyV_nil] at HLay
  obtain ⟨s, hs⟩ : ∃ s, layL [] = s := ⟨_, rfl⟩
  rw [hs] at HLay h5
  have h5' : ((s.size : Int) == 5) = true := by rw [h5]; rfl
  have HR := Lib.hid (fun X hX => L.right [] none 0 X hX (ents_nil _ _ _) sm_nil)
  clear hg h5 hs
  go_enter Tryd.func9, Tryd.ntmps9
  go_wp2_with fail
  refine (HLay.out).mono ?_
  rintro e w1 ⟨er, rfl, her, hb1⟩
  have HB1 := Lib.hid hb1
  have HG1 := Lib.hid (HG.out.below HG.out.lt hb1)
  have HE := Lib.hid her
  clear her hb1
  go_wp2_with fail
  refine (code_er _ _ _ HE.out HG1.out).mono ?_
  rintro e w2 ⟨rfl, hb2⟩
  have HB2 := Lib.hid (HB1.out.trans (hb2.mono HB1.out.size))
  have HG2 := Lib.hid (HG1.out.below HG1.out.lt hb2)
  clear hb2
  go_wp2_with fail
  refine (HR.out _ HG2.out).mono ?_
  rintro e w3 ⟨rfl, hb3⟩
  rw [decide_eq_true right_nil]
  have HB3 := Lib.hid (HB2.out.trans (hb3.mono HB2.out.size))
  clear hb3
  go_wp2
  go_ret
  exact ⟨rfl, HB3.out⟩
end Go.Proofs.YtflomllfehoedaaDoor

namespace Go.Proofs.YtflomllfehoedaaDoor
open Go.ChangeShapes Go.WideShapes Go.ChangeAt Go.RowKit

theorem cellsEn : Tryd.prog.cellsOf 38 = 3 := by kernel_rfl
theorem cellsEnI : Tryd.prog.cellsOf 3 = 1 := by kernel_rfl
theorem cellsEnS : Tryd.prog.cellsOf 9 = 1 := by kernel_rfl
set_option maxRecDepth 100000 in
theorem ent_open {H : Type} {enc : TypeId × Value → H} {W : World} {r : Reach} {b0 b : Nat} {v : Value} {d : DataW H} {ps : List MemPlace} (hval : Value.okWide Tryd.prog W r b0 38 v)
    (h : ∃ fuel, DataW.trod enc Tryd.prog W b (fun _ => true) true fuel 38 v.cells.toList = some (d, ps)) : ∃ (p : ByteArray) (k : Int) (t : ByteArray), v = entV p k t ∧ p.size ≤ maxLen ∧ t.size ≤ maxLen := by
  obtain ⟨cs, rfl, hcs⟩ := okWide_struct Tryd.underlying38 hval
  obtain ⟨fuel, hf⟩ := h
  obtain ⟨xs, m, _, _, hcl, hxl, hx⟩ := DataW.trod_struct Tryd.underlying38 hf
  have hxl : xs.length = 3 := hxl
  have h0 : DataW.trod enc Tryd.prog W b (fun _ => true) true m 9 ((cs.toList.drop 0).take (Tryd.prog.cellsOf 9)) = xs[0]? := hx 0 _ rfl
  have h1 : DataW.trod enc Tryd.prog W b (fun _ => true) true m 3 ((cs.toList.drop 1).take (Tryd.prog.cellsOf 3)) = xs[1]? := hx 1 _ rfl
  have h2 : DataW.trod enc Tryd.prog W b (fun _ => true) true m 9 ((cs.toList.drop 2).take (Tryd.prog.cellsOf 9)) = xs[2]? := hx 2 _ rfl
  rw [cellsEnS] at h0 h2
  rw [cellsEnI] at h1
  rw [cellsEn] at hcs
  rw [List.getElem?_eq_getElem (by omega)] at h0 h1 h2
  obtain ⟨p, e0, _, w0⟩ := DataW.trod_string Tryd.underlying9 h0
  obtain ⟨k, e1, _, _⟩ := DataW.trod_int Tryd.underlying3 h1
  obtain ⟨t, e2, _, w2⟩ := DataW.trod_string Tryd.underlying9 h2
  refine ⟨p, k, t, ?_, w0, w2⟩
  obtain ⟨cl⟩ := cs
  match cl, hcs with
  | [u0, u1, u2], _ =>
    simp at e0 e1 e2
    rw [e0, e1, e2]
end Go.Proofs.YtflomllfehoedaaDoor

namespace Go.Proofs.YtflomllfehoedaaDoor
open Go.ChangeShapes Go.WideShapes Go.ChangeAt Go.RowKit

set_option maxRecDepth 100000 in
theorem ent_cells {H : Type} {enc9 : TypeId × Value → H} {W : World} {b n : Nat} {cs : List Value} {d : DataW H × List MemPlace} (h : DataW.trod enc9 Tryd.prog W b (fun _ => true) true n 38 cs = some d) : ∃ x : Ent, (x.1.size ≤ maxLen ∧ x.2.2.size ≤ maxLen) ∧ cs = enc x := by
  obtain ⟨xs, m, _, _, hcl, hxl, hx⟩ := DataW.trod_struct Tryd.underlying38 h
  have hxl : xs.length = 3 := hxl
  have h0 : DataW.trod enc9 Tryd.prog W b (fun _ => true) true m 9 ((cs.drop 0).take (Tryd.prog.cellsOf 9)) = xs[0]? := hx 0 _ rfl
  have h1 : DataW.trod enc9 Tryd.prog W b (fun _ => true) true m 3 ((cs.drop 1).take (Tryd.prog.cellsOf 3)) = xs[1]? := hx 1 _ rfl
  have h2 : DataW.trod enc9 Tryd.prog W b (fun _ => true) true m 9 ((cs.drop 2).take (Tryd.prog.cellsOf 9)) = xs[2]? := hx 2 _ rfl
  rw [cellsEnS] at h0 h2
  rw [cellsEnI] at h1
  rw [cellsEn] at hcl
  rw [List.getElem?_eq_getElem (by omega)] at h0 h1 h2
  obtain ⟨p, e0, _, w0⟩ := DataW.trod_string Tryd.underlying9 h0
  obtain ⟨k, e1, _, _⟩ := DataW.trod_int Tryd.underlying3 h1
  obtain ⟨t, e2, _, w2⟩ := DataW.trod_string Tryd.underlying9 h2
  refine ⟨(p, k, t), ⟨w0, w2⟩, ?_⟩
  match cs, hcl with
  | [u0, u1, u2], _ =>
    have f0 : u0 = .string p := by simpa using e0
    have f1 : u1 = .int .i64 k := by simpa using e1
    have f2 : u2 = .string t := by simpa using e2
    rw [f0, f1, f2]
theorem ents_open {H : Type} {enc9 : TypeId × Value → H} {W : World} {b : Nat} {a : Option Addr} {len cap : Nat} {d : DataW H} {ps : List MemPlace}
    (h : ∃ fuel, DataW.trod enc9 Tryd.prog W b (fun _ => true) true fuel 22 (Value.slice a len cap).cells.toList = some (d, ps)) : ∃ l : List Ent, len = l.length ∧ Ents W a cap l ∧ (∀ x ∈ l, x.1.size ≤ maxLen ∧ x.2.2.size ≤ maxLen) ∧ l.length ≤ maxLen :=
  rowN_open enc (fun x => x.1.size ≤ maxLen ∧ x.2.2.size ≤ maxLen) Tryd.underlying22 cellsEn (by decide) (fun _ _ _ h => ent_cells h) h
end Go.Proofs.YtflomllfehoedaaDoor

namespace Go.Proofs.YtflomllfehoedaaDoor
open Go.RowKit

theorem refLayE (x : Ent) (h : rE x = true) (w : World) : Calls Tryd.prog 45 #[enV x] w fun e w' => e = .returned (.string (bs (enB x))) ∧ Below w.heap.size w w' := by
  obtain ⟨h1, h2, h3, h4, _⟩ := rightE_parts h
  have h54 := isP_len (isP_of_dp h1)
  rw [← Lib.size_eq] at h54
  have e : x.2.1 = ((x.2.1.toNat : Nat) : Int) := by omega
  have hb : bs (enB x) = layE x.1 x.2.1.toNat x.2.2 := ba_ext (by rw [bs_list]; rfl)
  rw [hb]
  have := refLay_any x.1 x.2.1.toNat x.2.2 (by omega) (by omega) (by omega) w
  rw [← e] at this
  exact this
theorem ensB_takeR (l : List Ent) (k : Nat) (h : k < l.length) : ensB (l.take (k + 1)) = ensB (l.take k) ++ enB l[k] := by
  rw [take_get l k h]
  unfold ensB
  rw [List.flatMap_append, List.flatMap_cons, List.flatMap_nil, List.append_nil]
set_option maxRecDepth 10000 in
set_option maxHeartbeats 2000000 in
theorem refLay9 (l : List Ent) (a : Option Addr) (cap : Nat) (w : World) (h : Ents w a cap l) (hr : RightL l) : Calls Tryd.prog 20 #[.slice a l.length cap] w fun e w' => e = .returned (.string (layL l)) ∧ Below w.heap.size w w' := by
  have HE := Lib.hid h
  have HR := Lib.hid hr
  have HL := Lib.hid hr.1
  have HN := Lib.hid (fun X => rnum_any l.length (by have := hr.1; omega) X)
  clear h hr
  go_enter Tryd.func20, Tryd.ntmps20
  go_wp2_with fail
  refine (HN.out _).mono ?_
  rintro e w1 ⟨rfl, hb1⟩
  have HB1 := Lib.hid hb1
  clear hb1
  go_wp2
  go_loopg [3, 4] l.length (fun g s i wx => ∃ (k : Nat) (t : ByteArray), s = .string t ∧ i = .int .i64 (k : Int) ∧ k + g = l.length ∧ Hid (t.data.toList = dg l.length ++ ensB (l.take k)) ∧ Hid (Below w.heap.size w wx))
  case atStart => exact ⟨0, _, rfl, rfl, by omega, by simp [Hid, numB_list, ensB], HB1.out⟩
  case round =>
    obtain ⟨k, t, rfl, rfl, hk, HT, HB⟩ := hrel
    have HS := Lib.hid (show t.size ≤ 30000 by
      have h1 := congrArg List.length HT.out
      rw [← Lib.size_eq, List.length_append] at h1
      have h2 := dg_nine (n := l.length) (by have := HL.out; omega)
      have h3 := ensB_len (l := l.take k) fun e he => HR.out.2.1 e (List.mem_of_mem_take he)
      rw [List.length_take] at h3
      have := HL.out
      omega)
    by_cases hlt : k < l.length
    · have hlt' : (k : Int) < (l.length : Int) := by omega
      obtain ⟨b, off, rfl, hb, hc⟩ := HE.out.at HB.out hlt
      have HX := Lib.hid (HR.out.2.1 _ (List.getElem_mem hlt))
      have HET := Lib.hid (ensB_takeR l k hlt)
      obtain ⟨x, hx⟩ : ∃ x, l[k] = x := ⟨_, rfl⟩
      rw [hx] at hc HX HET
      have c0 := hc.c0
      have c1 := hc.c1
      have c2 := hc.c2
      have HC := Lib.hid (fun X => refLayE x HX.out X)
      obtain ⟨u, hu⟩ : ∃ u, bs (enB x) = u := ⟨_, rfl⟩
      rw [hu] at HC
      have HU := Lib.hid (show u.data.toList = enB x by rw [← hu, bs_list])
      have hus : u.size ≤ 337 := by rw [Lib.size_eq, HU.out]; exact enB_len HX.out
      have z1 : ¬ 9223372036854775807 < t.size + u.size := by have := HS.out; omega
      have hw : IntKind.i64.wrap ((k : Int) + 1) = (k : Int) + 1 := IntWalk.i64_in _ (by have := HL.out; omega)
      clear hc hx hb hu hus
      go_wp2_with fail
      refine (HC.out _).mono ?_
      rintro e w2 ⟨rfl, hb2⟩
      have HB2 := Lib.hid (HB.out.trans (hb2.mono HB.out.size))
      clear hb2
      go_wp2
      go_roundg (gk - 1)
      case measure => omega
      case rel =>
        refine ⟨k + 1, _, rfl, by simp, by omega, ?_, HB2.out⟩
        show _ = _
        rw [ByteArray.data_append, Array.toList_append, HT.out, HU.out, HET.out, List.append_assoc]
    · have hlt' : ¬ (k : Int) < (l.length : Int) := by omega
      have HT2 := Lib.hid (show t.data.toList = layB l by
        rw [HT.out, List.take_of_length_le (by omega)]
        rfl)
      obtain ⟨x, hx⟩ : ∃ x, adl t.data.toList = x := ⟨_, rfl⟩
      have HA := Lib.hid hx
      have hbd := adl_bd t.data.toList
      rw [hx] at hbd
      have HS1 := Lib.hid (fun X => rsum_any t X (by have := HS.out; omega))
      rw [hx] at HS1
      have HS2 := Lib.hid (fun X => rfour_any x X hbd.1 hbd.2)
      obtain ⟨f, hf⟩ : ∃ f, four x = f := ⟨_, rfl⟩
      rw [hf] at HS2
      have hfs : f.size = 4 := by rw [← hf]; exact four_size _
      have z1 : ¬ 9223372036854775807 < t.size + f.size := by have := HS.out; omega
      have HV := Lib.hid (show t ++ f = layL l by
        apply ba_ext
        rw [ByteArray.data_append, Array.toList_append, layL_list, layT, ← HT2.out, ← hf, ← hx])
      clear hfs hf hx hbd
      go_wp2_with fail
      refine (HS1.out _).mono ?_
      rintro e w2 ⟨rfl, rfl⟩
      go_wp2_with fail
      refine (HS2.out _).mono ?_
      rintro e w3 ⟨rfl, hb3⟩
      have HB3 := Lib.hid (HB.out.trans (hb3.mono HB.out.size))
      clear hb3
      go_wp2
      go_ret
      exact ⟨by rw [← HV.out]; rfl, HB3.out⟩
end Go.Proofs.YtflomllfehoedaaDoor
