/-
  Contracts of package tree's found, sought and Read: the landed code's Read answers as Read11 says. Conditions: a tree in memory, of at most 900 entries, texts of at most 100000 bytes.
-/
import Derived.Test.YtgpipljhpkhffaaDoorS11Stand
import Derived.Test.YtgpipljhpkhffaaDoorS11SpecR
import Derived.Deep.RegionHeld3
import Derived.Test.YtgpipljhpkhffaaDoorPc
import Derived.Laws.ResultCell
namespace Go.Proofs.YtgpipljhpkhffaaDoor
open Go.RowKit

/-- No entry. -/
abbrev noE11 : Ent := (⟨#[]⟩, 0, ⟨#[]⟩)
/-- What found answers: the error, what lies there. -/
def foV (t : List Ent) (p : List UInt8) : Int × Ent := if ¬ isP p then (2, noE11) else if (lyE t p).2.1 = 0 then (3, noE11) else (0, lyE t p)
/-- What sought answers. -/
def soV (t : List Ent) (p : List UInt8) (k : Int) : Int × Ent := if (foV t p).1 ≠ 0 then ((foV t p).1, noE11) else if othV (foV t p).2.2.1 k ≠ 0 then (othV (foV t p).2.2.1 k, noE11) else (0, (foV t p).2)
theorem rdV_so {t : List Ent} (ht : TR t) (p : List UInt8) : rdV t p = ((soV t p 1).1, (soV t p 1).2.2.2) := by
  unfold rdV soV foV kdV
  by_cases h1 : isP p
  · rw [if_neg (not_not_intro h1), if_neg (not_not_intro h1)]
    unfold lyE datV
    by_cases h2 : p = [47]
    · simp [h2, othV]
    · rw [if_neg h2, if_neg h2]
      cases hf : fnd t p with
      | none => simp
      | some e =>
        obtain ⟨h8, _⟩ := (fnd_some ht.1.2.1).1 hf
        have := kind_of (ht.1.1 e h8)
        have := ht.2 e h8
        have : e.2.1 = 1 ∨ e.2.1 = 2 := by omega
        rcases this with h | h <;> simp [h, othV]
  · simp [h1]
attribute [local go_sem] field_kind
attribute [local go_sem ↓] old_ldi old_lds
attribute [local go_sem] oldC_forall isC1_ptr isS1_ptr c1V_ptr
theorem enSet_other {w : World} {b c : Nat} (h : ¬ c = b) (p : ByteArray) (k : Int) (d : ByteArray) : (enSet w b p k d).heap[c]? = w.heap[c]? :=
  (Below.heap_setCell _ _ _ _ h).trans ((Below.heap_setCell _ _ _ _ h).trans (Below.heap_setCell _ _ _ _ h))
theorem chain_set11 /- of a Fault, 68 -/ {w : World} {n : Int} {b : Nat} {p d : ByteArray} {k : Int} (hO : EnAt w b p k d) (p' : ByteArray) (k' : Int) (d' : ByteArray) : ∀ {l : List (ByteArray × ByteArray)} {v : Value}, Chain w n l v → Chain (enSet w b p' k' d') n l v
  | [], _, h => h
  | x :: r, _, ⟨c, v', h1, h2, h3, h4, h5, h6⟩ => by
    have hne : ¬ c = b := fun e => by
      subst e
      have := hO.c1
      rw [Nat.zero_add, this] at h4
      cases h4
    have hb := enSet_other (w := w) hne p' k' d'
    have hz : c < (enSet w b p' k' d').heap.size := by
      have : (enSet w b p' k' d').heap[c]? = some w.heap[c] := hb.trans (Array.getElem?_eq_getElem h2)
      exact (Array.getElem?_eq_some_iff.1 this).1
    exact ⟨c, v', h1, hz, (World.cell?_of_block hb).trans h3, (World.cell?_of_block hb).trans h4, (World.cell?_of_block hb).trans h5, chain_set11 hO p' k' d' (l := r) h6⟩
theorem er_set11 {w : World} {n : Int} {v : Value} {b : Nat} {p d : ByteArray} {k : Int} (h : Er w n v) (hO : EnAt w b p k d) (p' : ByteArray) (k' : Int) (d' : ByteArray) : Er (enSet w b p' k' d') n v := h.imp_right fun ⟨h0, l, hl⟩ => ⟨h0, l, chain_set11 hO p' k' d' hl⟩
set_option maxRecDepth 10000 in
set_option maxHeartbeats 4000000 in
theorem found11 (t : List Ent) (a : Option Addr) (cap : Nat) (p : ByteArray) (w : World) (h : Ents w a cap t) (ht : TreeL t) (hl : t.length ≤ 900) (hp : p.size ≤ 100000) :
    Calls Tryd.prog 44 #[.slice a t.length cap, .string p] w fun e w' => ∃ er, e = .returned (.tuple #[enV (foV t p.data.toList).2, er]) ∧ Er w' (foV t p.data.toList).1 er ∧ Below w.heap.size w w' := by
  obtain ⟨V, hV⟩ : ∃ V, w.alloc (.cells #[.string ⟨#[]⟩, .int .i64 0, .string ⟨#[]⟩] 41) = V := ⟨_, rfl⟩
  obtain ⟨O, hO⟩ : ∃ O, w.heap.size = O := ⟨_, rfl⟩
  have hb1 : Below w.heap.size w V := by rw [← hV]; exact (Below.refl _ _).alloc (Nat.le_refl _) _
  have HR := Lib.hid (show EnAt V O ⟨#[]⟩ 0 ⟨#[]⟩ by rw [← hV, ← hO]; exact enAt_new _ _ _ _)
  have HOW := Lib.hid (show w.heap.size ≤ O by omega)
  have HB := Lib.hid hb1
  have HE := Lib.hid (RowN.below h hb1)
  have HC := Lib.hid (tree10 t a cap V HE.out (sm_tree ht (by omega)))
  rw [decide_eq_true ht] at HC
  have HD := Lib.hid (fun W => deep_any p (by omega) W)
  have HL : Hid (∀ W, Below w.heap.size w W → _) := fun W hW => lying11 t a cap p W (RowN.below h hW) ht.2.1.2.1 (by omega)
  have HF : Hid (foV t p.data.toList = if ¬ isP p.data.toList then (2, noE11) else if (lyE t p.data.toList).2.1 = 0 then (3, noE11) else (0, lyE t p.data.toList)) := rfl
  obtain ⟨r, hr⟩ : ∃ r, foV t p.data.toList = r := ⟨_, rfl⟩
  rw [hr] at HF ⊢
  obtain ⟨d, hd⟩ : ∃ d, dp p.data.toList = d := ⟨_, rfl⟩
  have HDP := Lib.hid (dp_lt (p := p.data.toList))
  rw [hd] at HD HDP
  obtain ⟨E, hE⟩ : ∃ E, lyE t p.data.toList = E := ⟨_, rfl⟩
  rw [hE] at HL HF
  clear h ht hl hp hr hd hE hb1
  go_enter Tryd.func44, Tryd.ntmps44
  go_wp2_with fail
  refine (HC.out).mono ?_
  rintro e w1 ⟨rfl, hb⟩
  have HB1 := Lib.hid (HB.out.trans (hb.mono HB.out.size))
  have HR1 := Lib.hid (HR.out.below hb)
  clear hb
  go_wp2_with fail
  refine (HD.out _).mono ?_
  rintro e w2 ⟨rfl, hb⟩
  have HB2 := Lib.hid (HB1.out.trans (hb.mono HB1.out.size))
  have HR2 := Lib.hid (HR1.out.below hb)
  clear hb
  by_cases h1 : d < 0
  · have HV := Lib.hid (show r = (2, noE11) by rw [HF.out, if_pos (HDP.out.1 h1)])
    have r0 := HR2.out.c0
    have r1 := HR2.out.c1
    have r2 := HR2.out.c2
    have f0 := HR2.out.f0
    have f1 := HR2.out.f1
    have f2 := HR2.out.f2
    go_wp2
    have hld := lv_en (HR2.out.set ⟨#[]⟩ 0 ⟨#[]⟩)
    refine bodyPost_ret (v := .tuple #[entV ⟨#[]⟩ 0 ⟨#[]⟩, .iface 51 (.int .i64 2)]) ?_ rfl ⟨.iface 51 (.int .i64 2), by rw [HV.out], by rw [HV.out]; exact er_no11 _ _ (by decide), below_en3 HB2.out HOW.out _ _ _⟩
    rw [results_cell_tmp rfl]
    simp [asAddr, Result.andThen, hld]
  · have HF1 := Lib.hid (show r = if E.2.1 = 0 then (3, noE11) else (0, E) by rw [HF.out, if_neg (fun h => h1 (HDP.out.2 h))])
    have HL2 := Lib.hid (HL.out w2 HB2.out)
    clear HF HDP HL
    go_wp2_with fail
    refine (HL2.out).mono ?_
    rintro e w3 ⟨rfl, hb⟩
    have HB3 := Lib.hid (HB2.out.trans (hb.mono HB2.out.size))
    have HR3 := Lib.hid (HR2.out.below hb)
    clear hb
    obtain ⟨V3, hV3⟩ : ∃ V, w3.alloc (.cells #[.string E.1, .int .i64 E.2.1, .string E.2.2] 41) = V := ⟨_, rfl⟩
    obtain ⟨M3, hM3⟩ : ∃ M, w3.heap.size = M := ⟨_, rfl⟩
    have hbV3 : Below w3.heap.size w3 V3 := by rw [← hV3]; exact (Below.refl _ _).alloc (Nat.le_refl _) _
    replace HB3 := Lib.hid (HB3.out.trans (hbV3.mono HB3.out.size))
    replace HR3 := Lib.hid (HR3.out.below hbV3)
    have HQ3 := Lib.hid (show EnAt V3 M3 E.1 E.2.1 E.2.2 by rw [← hV3, ← hM3]; exact enAt_new _ _ _ _)
    have q0 := HQ3.out.c0
    have q1 := HQ3.out.c1
    have q2 := HQ3.out.c2
    clear hbV3
    have r0 := HR3.out.c0
    have r1 := HR3.out.c1
    have r2 := HR3.out.c2
    have f0 := HR3.out.f0
    have f1 := HR3.out.f1
    have f2 := HR3.out.f2
    by_cases h2 : E.2.1 = 0
    · have HV := Lib.hid (show r = (3, noE11) by rw [HF1.out, if_pos h2])
      have g2 : (E.2.1 == 0) = true := beq_iff_eq.2 h2
      clear h2
      go_wp2
      have hld := lv_en (HR3.out.set ⟨#[]⟩ 0 ⟨#[]⟩)
      refine bodyPost_ret (v := .tuple #[entV ⟨#[]⟩ 0 ⟨#[]⟩, .iface 51 (.int .i64 3)]) ?_ rfl ⟨.iface 51 (.int .i64 3), by rw [HV.out], by rw [HV.out]; exact er_no11 _ _ (by decide), below_en3 HB3.out HOW.out _ _ _⟩
      rw [results_cell_tmp rfl]
      simp [asAddr, Result.andThen, hld]
    · have HV := Lib.hid (show r = (0, E) by rw [HF1.out, if_neg h2])
      have g2 : (E.2.1 == 0) = false := beq_eq_false_iff_ne.2 h2
      clear h2
      go_wp2
      have hld := lv_en (HR3.out.set E.1 E.2.1 E.2.2)
      refine bodyPost_ret (v := .tuple #[enV E, .nilIface]) ?_ rfl ⟨.nilIface, by rw [HV.out], by rw [HV.out]; exact er_nil _, below_en3 HB3.out HOW.out _ _ _⟩
      rw [results_cell_tmp rfl]
      simp [asAddr, Result.andThen, hld]
set_option maxRecDepth 10000 in
set_option maxHeartbeats 4000000 in
theorem sought11 (t : List Ent) (a : Option Addr) (cap : Nat) (p : ByteArray) (k : Int) (w : World) (h : Ents w a cap t) (ht : TreeL t) (hl : t.length ≤ 900) (hp : p.size ≤ 100000) :
    Calls Tryd.prog 27 #[.slice a t.length cap, .string p, .int .i64 k] w fun e w' => ∃ er, e = .returned (.tuple #[enV (soV t p.data.toList k).2, er]) ∧ Er w' (soV t p.data.toList k).1 er ∧ Below w.heap.size w w' := by
  obtain ⟨V, hV⟩ : ∃ V, w.alloc (.cells #[.string ⟨#[]⟩, .int .i64 0, .string ⟨#[]⟩] 41) = V := ⟨_, rfl⟩
  obtain ⟨O, hO⟩ : ∃ O, w.heap.size = O := ⟨_, rfl⟩
  have hb1 : Below w.heap.size w V := by rw [← hV]; exact (Below.refl _ _).alloc (Nat.le_refl _) _
  have HR := Lib.hid (show EnAt V O ⟨#[]⟩ 0 ⟨#[]⟩ by rw [← hV, ← hO]; exact enAt_new _ _ _ _)
  have HOW := Lib.hid (show w.heap.size ≤ O by omega)
  have HB := Lib.hid hb1
  have HC := Lib.hid (found11 t a cap p V (RowN.below h hb1) ht hl hp)
  have HS : Hid (soV t p.data.toList k = if (foV t p.data.toList).1 ≠ 0 then ((foV t p.data.toList).1, noE11) else if othV (foV t p.data.toList).2.2.1 k ≠ 0 then (othV (foV t p.data.toList).2.2.1 k, noE11) else (0, (foV t p.data.toList).2)) := rfl
  obtain ⟨f, hf⟩ : ∃ f, foV t p.data.toList = f := ⟨_, rfl⟩
  obtain ⟨r, hr⟩ : ∃ r, soV t p.data.toList k = r := ⟨_, rfl⟩
  rw [hf] at HC HS
  rw [hr] at HS ⊢
  obtain ⟨n, E⟩ := f
  have HO := Lib.hid (fun W => other11 E k W)
  clear h ht hl hp hr hf hb1
  go_enter Tryd.func27, Tryd.ntmps27
  go_wp2_with fail
  refine (HC.out).mono ?_
  rintro e w1 ⟨er, rfl, her, hb⟩
  have HB1 := Lib.hid (HB.out.trans (hb.mono HB.out.size))
  have HR1 := Lib.hid (HR.out.below hb)
  obtain ⟨V1, hV1⟩ : ∃ V, w1.alloc (.cells #[.string E.1, .int .i64 E.2.1, .string E.2.2] 41) = V := ⟨_, rfl⟩
  obtain ⟨M1, hM1⟩ : ∃ M, w1.heap.size = M := ⟨_, rfl⟩
  have hbV1 : Below w1.heap.size w1 V1 := by rw [← hV1]; exact (Below.refl _ _).alloc (Nat.le_refl _) _
  replace HB1 := Lib.hid (HB1.out.trans (hbV1.mono HB1.out.size))
  replace HR1 := Lib.hid (HR1.out.below hbV1)
  have HQ1 := Lib.hid (show EnAt V1 M1 E.1 E.2.1 E.2.2 by rw [← hV1, ← hM1]; exact enAt_new _ _ _ _)
  have q0 := HQ1.out.c0
  have q1 := HQ1.out.c1
  have q2 := HQ1.out.c2
  clear hbV1
  have HBV := Lib.hid (show Below w1.heap.size w1 V1 by rw [← hV1]; exact (Below.refl _ _).alloc (Nat.le_refl _) _)
  clear hb
  rcases her with ⟨h0, rfl⟩ | ⟨h0, herr⟩
  · have HS1 := Lib.hid (show r = if othV E.2.1 k ≠ 0 then (othV E.2.1 k, noE11) else (0, E) by rw [HS.out, if_neg (not_not_intro h0)])
    clear h0 HS
    go_wp2_with fail
    refine (HO.out _).mono ?_
    rintro e w2 ⟨er, rfl, her, hb⟩
    have HB2 := Lib.hid (HB1.out.trans (hb.mono HB1.out.size))
    have HR2 := Lib.hid (HR1.out.below hb)
    have HQ2 := Lib.hid (HQ1.out.below hb)
    clear hb q0 q1 q2
    have q0 := HQ2.out.c0
    have q1 := HQ2.out.c1
    have q2 := HQ2.out.c2
    have r0 := HR2.out.c0
    have r1 := HR2.out.c1
    have r2 := HR2.out.c2
    have f0 := HR2.out.f0
    have f1 := HR2.out.f1
    have f2 := HR2.out.f2
    rcases her with ⟨h0, rfl⟩ | ⟨h0, herr⟩
    · have HV := Lib.hid (show r = (0, E) by rw [HS1.out, if_neg (not_not_intro h0)])
      clear h0
      go_wp2
      have hld := lv_en (HR2.out.set E.1 E.2.1 E.2.2)
      refine bodyPost_ret (v := .tuple #[enV E, .nilIface]) ?_ rfl ⟨.nilIface, by rw [HV.out], by rw [HV.out]; exact er_nil _, below_en3 HB2.out HOW.out _ _ _⟩
      rw [results_cell_tmp rfl]
      simp [asAddr, Result.andThen, hld]
    · have HV := Lib.hid (show r = (othV E.2.1 k, noE11) by rw [HS1.out, if_pos h0])
      obtain ⟨u, y, rfl⟩ := herr.iface
      have HER := Lib.hid (show Er w2 (othV E.2.1 k) (.iface u y) from .inr ⟨h0, herr⟩)
      have HLT := Lib.hid (HR2.out.lt)
      clear herr h0
      go_wp2
      have hld := lv_en (HR2.out.set ⟨#[]⟩ 0 ⟨#[]⟩)
      refine bodyPost_ret (v := .tuple #[entV ⟨#[]⟩ 0 ⟨#[]⟩, .iface u y]) ?_ rfl ⟨.iface u y, by rw [HV.out], by rw [HV.out]; exact er_set11 HER.out HR2.out _ _ _, below_en3 HB2.out HOW.out _ _ _⟩
      rw [results_cell_tmp rfl]
      simp [asAddr, Result.andThen, hld]
  · have HV := Lib.hid (show r = (n, noE11) by rw [HS.out, if_pos h0])
    obtain ⟨u, y, rfl⟩ := herr.iface
    have HER := Lib.hid ((show Er w1 n (.iface u y) from .inr ⟨h0, herr⟩).below HBV.out)
    clear herr h0
    have r0 := HR1.out.c0
    have r1 := HR1.out.c1
    have r2 := HR1.out.c2
    have f0 := HR1.out.f0
    have f1 := HR1.out.f1
    have f2 := HR1.out.f2
    go_wp2
    have hld := lv_en (HR1.out.set ⟨#[]⟩ 0 ⟨#[]⟩)
    refine bodyPost_ret (v := .tuple #[entV ⟨#[]⟩ 0 ⟨#[]⟩, .iface u y]) ?_ rfl ⟨.iface u y, by rw [HV.out], by rw [HV.out]; exact er_set11 HER.out HR1.out _ _ _, below_en3 HB1.out HOW.out _ _ _⟩
    rw [results_cell_tmp rfl]
    simp [asAddr, Result.andThen, hld]
set_option maxRecDepth 10000 in
set_option maxHeartbeats 1000000 in
theorem read11 : Read11 := fun t a cap p w _ h ht hl hp => by
  rw [rdV_so ht.2]
  have HC := Lib.hid (sought11 t a cap p 1 w h ht hl hp)
  have HA := Lib.hid (fun o n v W h => at_er o p n v W h)
  obtain ⟨f, hf⟩ : ∃ f, soV t p.data.toList 1 = f := ⟨_, rfl⟩
  rw [hf] at HC ⊢
  obtain ⟨n, E⟩ := f
  clear h ht hl hp hf
  go_enter Tryd.func11, Tryd.ntmps11
  go_wp2_with fail
  refine (HC.out).mono ?_
  rintro e w1 ⟨er, rfl, her, hb⟩
  have HB1 := Lib.hid hb
  obtain ⟨V1, hV1⟩ : ∃ V, w1.alloc (.cells #[.string E.1, .int .i64 E.2.1, .string E.2.2] 41) = V := ⟨_, rfl⟩
  obtain ⟨M1, hM1⟩ : ∃ M, w1.heap.size = M := ⟨_, rfl⟩
  have hbV1 : Below w1.heap.size w1 V1 := by rw [← hV1]; exact (Below.refl _ _).alloc (Nat.le_refl _) _
  replace HB1 := Lib.hid (HB1.out.trans (hbV1.mono HB1.out.size))
  have HQ1 := Lib.hid (show EnAt V1 M1 E.1 E.2.1 E.2.2 by rw [← hV1, ← hM1]; exact enAt_new _ _ _ _)
  have HKS : Hid (∀ X, Below V1.heap.size V1 X → X.cell? ⟨M1, 2, none⟩ = some (.string E.2.2)) := fun X hX => (HQ1.out.below hX).c2
  have HA1 : Hid (∀ o, Calls Tryd.prog 25 #[.string o, .string p, er] V1.drew fun e w' => ∃ v', e = .returned v' ∧ Er w' n v' ∧ Below V1.heap.size V1 w') := fun o => by
    refine (HA.out o n er V1.drew ((her.below hbV1).below ((Below.refl _ _).drew))).mono ?_
    rintro e w' ⟨v', rfl, h1, hb⟩
    exact ⟨v', rfl, h1, ((Below.refl V1.heap.size V1).drew).trans hb⟩
  clear hb her hbV1 HC HA
  go_wp2_with fail
  clear hV1 hM1
  go_region_held3 (fun X => X.cell? ⟨M1, 2, none⟩ = some (.string E.2.2))
    ((with_reducible refine HKS.out _ ?_; (first | with_reducible assumption | with_reducible exact Below.refl _ _ | with_reducible exact (Below.refl _ _).drew)))
    (first
    | (go_at_call 25; with_reducible refine (HA1.out _).mono ?_; rintro e w2 ⟨er2, rfl, her, hB2⟩))
  all_goals
    have HB2 := Lib.hid (HB1.out.trans (hB2.mono HB1.out.size))
    have HER2 := Lib.hid her
    clear hB2 her
    go_wp2
    go_ret2
    exact ⟨er2, rfl, HER2.out, HB2.out⟩
end Go.Proofs.YtgpipljhpkhffaaDoor
