/-
  The contract of layer.housed: whether a right entry lies in the root or in a directory of a rising list. Conditions: the list lies in memory, rises, has at most 1000 entries; the entry is right.
-/
import Derived.Test.YthpobihpdomhoaaDoorS9Place
import Derived.Test.YthpobihpdomhoaaDoorS8EntR
import Derived.Test.YthpobihpdomhoaaDoorS3ParG
namespace Go.Proofs.YthpobihpdomhoaaDoor
open Go.RowKit

theorem par9_root {p : List UInt8} (h : isP p) (h1 : p ≠ [47]) : par9 p = [47] ↔ dp p = 1 := by
  obtain ⟨ms, x, a1, _, a3, _, a5⟩ := par9_parts h h1
  rw [a5, dp_pos h, a3, ← pcs_nil (isP_pth a1), pcs_pth a1.2, List.length_append, ← List.length_eq_zero_iff]
  simp only [List.length_singleton]
  omega
theorem inD_fnd {l : List Ent} (hA : Asc l) {e : Ent} (hne : par9 (pl e) ≠ [47]) : decide (inD l e) = (match fnd l (par9 (pl e)) with
    | some d => hd d
    | none => false) := by
  cases hf : fnd l (par9 (pl e)) with
  | none =>
    refine decide_eq_false ?_
    rintro (h | ⟨d, h1, h2, _⟩)
    · exact hne h
    · exact fnd_none.1 hf d h1 h2
  | some d =>
    obtain ⟨h1, h2⟩ := (fnd_some hA).1 hf
    show _ = hd d
    cases hd' : hd d with
    | true => exact decide_eq_true (.inr ⟨d, h1, h2, hd'⟩)
    | false =>
      refine decide_eq_false ?_
      rintro (h | ⟨x, h3, h4, h5⟩)
      · exact hne h
      · obtain rfl := asc_inj hA h1 h3 (h2.trans h4.symm)
        rw [hd'] at h5
        cases h5
set_option maxRecDepth 10000 in
set_option maxHeartbeats 2000000 in
theorem housed9 (l : List Ent) (a : Option Addr) (cap : Nat) (e : Ent) (w : World) (h : Ents w a cap l) (hA : Asc l) (hl : l.length ≤ 1000) (he : rE e = true) :
    Calls Tryd.prog 39 #[.slice a l.length cap, enV e] w fun r w' => r = .returned (.bool (decide (inD l e))) ∧ Below w.heap.size w w' := by
  obtain ⟨hP, hne⟩ := rE_isP he
  have h54 := isP_len hP
  rw [← Lib.size_eq] at h54
  obtain ⟨W, hW⟩ : ∃ W, w.alloc (.cells #[.string e.1, .int .i64 e.2.1, .string e.2.2] 26) = W := ⟨_, rfl⟩
  obtain ⟨N, hN⟩ : ∃ N, w.heap.size = N := ⟨_, rfl⟩
  have hb0 : Below w.heap.size w W := by rw [← hW]; exact (Below.refl _ _).alloc (Nat.le_refl _) _
  have HB0 := Lib.hid hb0
  have r0 : EnAt W N e.1 e.2.1 e.2.2 := by rw [← hW, ← hN]; exact enAt_new _ _ _ _
  have c0 := r0.c0
  have HR0 := Lib.hid r0
  have HE := Lib.hid (RowN.below h hb0)
  have HA := Lib.hid hA
  have HL := Lib.hid hl
  have HZ := Lib.hid (show e.1.size ≤ 9223372036854775807 by omega)
  have HP := Lib.hid hP
  have HNE := Lib.hid hne
  have HPR := Lib.hid (par9_root hP hne)
  obtain ⟨ms, y, m1, m2, m3, m4, m5⟩ := par9_parts hP hne
  have HPG := Lib.hid (parent_good e.1 ms y hP m2 m4 hne)
  have HM5 := Lib.hid m5
  obtain ⟨n, hn⟩ : ∃ n, dp (pl e) = n := ⟨_, rfl⟩
  rw [hn] at HPR
  have HN := Lib.hid hn
  clear h hA hl he hP hne h54 hb0 r0 m1 m2 m3 m4 m5 hn
  by_cases h1 : n = 1
  · have g1 : (n == 1) = true := by rw [h1]; rfl
    have HV := Lib.hid (show decide (inD l e) = true from decide_eq_true (.inl (HPR.out.2 h1)))
    clear h1
    go_enter Tryd.func39, Tryd.ntmps39
    go_wp2_with fail
    refine (deep_any e.1 HZ.out _).mono ?_
    rintro r w1 ⟨rfl, hb⟩
    rw [HN.out]
    have HB1 := Lib.hid (HB0.out.trans (hb.mono HB0.out.size))
    clear hb
    go_wp2
    go_ret
    exact ⟨by rw [HV.out]; rfl, HB1.out⟩
  · have g1 : (n == 1) = false := beq_eq_false_iff_ne.2 h1
    have HV := Lib.hid (inD_fnd (e := e) HA.out (fun h => h1 (HPR.out.1 h)))
    clear h1
    go_enter Tryd.func39, Tryd.ntmps39
    go_wp2_with fail
    refine (deep_any e.1 HZ.out _).mono ?_
    rintro r w1 ⟨rfl, hb⟩
    rw [HN.out]
    have HB1 := Lib.hid (HB0.out.trans (hb.mono HB0.out.size))
    have HE1 := Lib.hid (RowN.below HE.out hb)
    have HR1 := Lib.hid (HR0.out.below hb)
    clear hb c0
    have c0 := HR1.out.c0
    go_wp2_with fail
    refine (HPG.out _).mono ?_
    rintro r w2 ⟨d, z, rfl, hd1, _, hb⟩
    have HB2 := Lib.hid (HB1.out.trans (hb.mono HB1.out.size))
    have HE2 := Lib.hid (RowN.below HE1.out hb)
    have HD := Lib.hid (hd1.trans HM5.out.symm)
    clear hb hd1 c0
    go_wp2_with fail
    refine (place9 l a cap d _ HE2.out HA.out HL.out).mono ?_
    rintro r w3 ⟨rfl, hb⟩
    rw [HD.out]
    have HB3 := Lib.hid (HB2.out.trans (hb.mono HB2.out.size))
    have HE3 := Lib.hid (RowN.below HE2.out hb)
    clear hb
    cases hf : fnd l (par9 (pl e)) with
    | none =>
      rw [hf] at HV
      rw [show (none : Option Ent).isSome = false from rfl]
      clear hf
      go_wp2
      go_ret
      exact ⟨by rw [HV.out]; rfl, HB3.out⟩
    | some x =>
      rw [hf] at HV
      rw [show (some x).isSome = true from rfl]
      obtain ⟨hk, hx, _⟩ := plc_some HA.out hf
      obtain ⟨K, hK⟩ : ∃ K, plc l (par9 (pl e)) = K := ⟨_, rfl⟩
      simp only [hK] at hk hx
      rw [hK]
      obtain ⟨b, off, rfl, _, hc⟩ := Ents.at HE3.out (Below.refl _ _) hk
      rw [hx] at hc
      have c0 := hc.c0
      have c1 := hc.c1
      have c2 := hc.c2
      have hk' : (K : Int) < (l.length : Int) := by omega
      clear hf hK hx hc
      go_wp2_with fail
      refine (holds8 x.1 x.2.2 x.2.1 _).mono ?_
      rintro r w4 ⟨rfl, hb⟩
      have HB4 := Lib.hid (HB3.out.trans (hb.mono HB3.out.size))
      have HV2 := Lib.hid (show decide (inD l e) = (x.2.1 == 2 || x.2.1 == 4) from HV.out)
      obtain ⟨q, hq⟩ : ∃ q, (x.2.1 == 2 || x.2.1 == 4) = q := ⟨_, rfl⟩
      rw [hq] at HV2 ⊢
      clear hb hq HV
      go_wp2
      go_ret
      exact ⟨by rw [HV2.out]; rfl, HB4.out⟩
end Go.Proofs.YthpobihpdomhoaaDoor
