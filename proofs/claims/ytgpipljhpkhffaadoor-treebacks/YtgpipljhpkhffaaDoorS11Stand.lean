/-
  Contracts of package tree's standing, vacant, made, Create and Mkdir. Conditions: a tree in memory, of at most 900 entries, texts of at most 100000 bytes.
-/
import Derived.Test.YtgpipljhpkhffaaDoorS11Small
namespace Go.Proofs.YtgpipljhpkhffaaDoor
open Go.RowKit

set_option maxRecDepth 10000 in
set_option maxHeartbeats 2000000 in
theorem standing11 (t : List Ent) (a : Option Addr) (cap : Nat) (p : ByteArray) (k : Int) (w : World) (h : Ents w a cap t) (ht : TreeL t) (hl : t.length ≤ 900) (hp : p.size ≤ 100000) :
    Calls Tryd.prog 31 #[.slice a t.length cap, .string p, .int .i64 k] w fun e w' => ∃ i er, e = .returned (.tuple #[.int .i64 i, er]) ∧ Er w' (stV t p.data.toList k) er ∧ (stV t p.data.toList k = 0 → i = (plc t p.data.toList : Nat)) ∧ Below w.heap.size w w' := by
  have HE := Lib.hid h
  have HH := Lib.hid (house11 t a cap p w h ht hl hp)
  have HP : Hid (∀ W, Below w.heap.size w W → _) := fun W hW => place11 t a cap p W (RowN.below HE.out hW) ht.2.1.2.1 (by omega)
  obtain ⟨K, hK⟩ : ∃ K, plc t p.data.toList = K := ⟨_, rfl⟩
  have HPS : Hid (∀ x, fnd t p.data.toList = some x → ∃ hk : K < t.length, t[K] = x) := fun x hx => by
    obtain ⟨h1, h2, _⟩ := plc_some ht.2.1.2.1 hx
    subst hK
    exact ⟨h1, h2⟩
  have HO := Lib.hid (fun (x : Ent) W => other11 x k W)
  have HSV := Lib.hid (show stV t p.data.toList k = _ from rfl)
  unfold stV at HSV
  obtain ⟨s, hs⟩ : ∃ s, stV t p.data.toList k = s := ⟨_, rfl⟩
  rw [show stV t p.data.toList k = s from hs]
  have HS : Hid (s = if hsV p.data.toList ≠ 0 then hsV p.data.toList else match fnd t p.data.toList with
    | none => 3
    | some e => othV e.2.1 k) := hs.symm
  rw [hK] at HP ⊢
  clear h ht hl hp HSV hs hK
  go_enter Tryd.func31, Tryd.ntmps31
  go_wp2_with fail
  refine (HH.out).mono ?_
  rintro e w1 ⟨d, er, rfl, her, _, hb⟩
  have HB1 := Lib.hid hb
  clear hb
  rcases her with ⟨h0, rfl⟩ | ⟨h0, herr⟩
  · have HS1 := Lib.hid (show s = match fnd t p.data.toList with
      | none => 3
      | some e => othV e.2.1 k by rw [HS.out, if_neg (not_not_intro h0)])
    clear h0 HS
    have HPL := Lib.hid (HP.out w1 HB1.out)
    clear HP
    cases hf : fnd t p.data.toList with
    | none =>
      rw [hf] at HPL HS1
      rw [show (none : Option Ent).isSome = false from rfl] at HPL
      clear hf
      go_wp2_with fail
      refine (HPL.out).mono ?_
      rintro e w2 ⟨rfl, hb⟩
      have HB2 := Lib.hid (HB1.out.trans (hb.mono HB1.out.size))
      clear hb
      go_wp2
      go_ret2
      exact ⟨_, _, rfl, by rw [HS1.out]; exact er_no11 _ _ (by decide), (fun h => by rw [HS1.out] at h; cases h), HB2.out⟩
    | some x =>
      obtain ⟨hk, hx⟩ := HPS.out x hf
      rw [hf] at HPL HS1
      rw [show (some x).isSome = true from rfl] at HPL
      have hk' : (K : Int) < (t.length : Int) := by omega
      clear hf HPS
      go_wp2_with fail
      refine (HPL.out).mono ?_
      rintro e w2 ⟨rfl, hb⟩
      have HB2 := Lib.hid (HB1.out.trans (hb.mono HB1.out.size))
      clear hb
      obtain ⟨b, off, rfl, _, hc⟩ := Ents.at HE.out HB2.out hk
      rw [hx] at hc
      have c0 := hc.c0
      have c1 := hc.c1
      have c2 := hc.c2
      clear hc hx
      go_wp2_with fail
      refine (HO.out x _).mono ?_
      rintro e w3 ⟨er, rfl, her, hb⟩
      have HB3 := Lib.hid (HB2.out.trans (hb.mono HB2.out.size))
      have HER := Lib.hid her
      clear hb her c0 c1 c2
      go_wp2
      go_ret2
      exact ⟨_, er, rfl, by rw [HS1.out]; exact HER.out, fun _ => rfl, HB3.out⟩
  · have HS1 := Lib.hid (show s = hsV p.data.toList by rw [HS.out, if_pos h0])
    obtain ⟨u, y, rfl⟩ := herr.iface
    have HER := Lib.hid herr
    have H0 := Lib.hid h0
    clear herr HS h0 HP
    go_wp2
    go_ret2
    exact ⟨_, _, rfl, by rw [HS1.out]; exact .inr ⟨H0.out, HER.out⟩, (fun h => by rw [HS1.out] at h; exact absurd h H0.out), HB1.out⟩
theorem field_kind (E : Ent) (w : World) : (Instr.field 41 (enV E) 1).run Tryd.prog w = .ok (.int .i64 E.2.1) w := by kernel_rfl
attribute [local go_sem] field_kind in
set_option maxRecDepth 10000 in
set_option maxHeartbeats 4000000 in
theorem vacant11 (t : List Ent) (a : Option Addr) (cap : Nat) (p : ByteArray) (w : World) (h : Ents w a cap t) (ht : TreeL t) (hl : t.length ≤ 900) (hp : p.size ≤ 100000) :
    Calls Tryd.prog 32 #[.slice a t.length cap, .string p] w fun e w' => ∃ er, e = .returned er ∧ Er w' (plcV t p.data.toList) er ∧ Below w.heap.size w w' := by
  have HE := Lib.hid h
  have HH := Lib.hid (house11 t a cap p w h ht hl hp)
  have HL : Hid (∀ (q : ByteArray) W, Below w.heap.size w W → _) := fun q W hW => lying11 t a cap q W (RowN.below HE.out hW) ht.2.1.2.1 (by omega)
  have HS := Lib.hid (plcV_ly ht.2 p.data.toList)
  have HK := Lib.hid (show ∀ q, (lyE t q).2.1 = 0 ∨ (lyE t q).2.1 = 1 ∨ (lyE t q).2.1 = 2 from fun q => by
    unfold lyE
    split
    · simp
    · cases hf : fnd t q with
      | none => simp
      | some e =>
        obtain ⟨h8, _⟩ := (fnd_some ht.2.1.2.1).1 hf
        have h1 := kind_of (ht.2.1.1 e h8)
        have h2 := ht.2.2 e h8
        show e.2.1 = 0 ∨ e.2.1 = 1 ∨ e.2.1 = 2
        omega)
  obtain ⟨s, hs⟩ : ∃ s, plcV t p.data.toList = s := ⟨_, rfl⟩
  rw [hs] at HS ⊢
  clear h ht hl hp hs
  go_enter Tryd.func32, Tryd.ntmps32
  go_wp2_with fail
  refine (HH.out).mono ?_
  rintro e w1 ⟨d, er, rfl, her, hd, hb⟩
  have HB1 := Lib.hid hb
  clear hb
  rcases her with ⟨h0, rfl⟩ | ⟨h0, herr⟩
  · have HS1 := Lib.hid (show s = if (lyE t (par9 p.data.toList)).2.1 = 0 then 3 else if (lyE t (par9 p.data.toList)).2.1 = 1 then 6 else if (lyE t p.data.toList).2.1 ≠ 0 then 4 else 0 by rw [HS.out, if_neg (not_not_intro h0)])
    have HK1 := Lib.hid (HK.out (par9 p.data.toList))
    have HLD := Lib.hid (HL.out d w1 HB1.out)
    rw [hd h0] at HLD
    obtain ⟨E, hE⟩ : ∃ E, lyE t (par9 p.data.toList) = E := ⟨_, rfl⟩
    rw [hE] at HS1 HK1 HLD
    clear h0 hd HS hE
    go_wp2_with fail
    refine (HLD.out).mono ?_
    rintro e w2 ⟨rfl, hb⟩
    have HB2 := Lib.hid (HB1.out.trans (hb.mono HB1.out.size))
    clear hb
    rcases HK1.out with h1 | h1 | h1
    · have HV := Lib.hid (show s = 3 by rw [HS1.out, if_pos h1])
      have g1 : (E.2.1 == 0) = true := beq_iff_eq.2 h1
      clear h1
      go_wp2
      go_ret
      exact ⟨_, rfl, by rw [HV.out]; exact er_no11 _ _ (by decide), HB2.out⟩
    · have HV := Lib.hid (show s = 6 by rw [HS1.out, if_neg (by rw [h1]; decide), if_pos h1])
      have g1 : (E.2.1 == 0) = false := by rw [h1]; rfl
      have g2 : (E.2.1 == 1) = true := beq_iff_eq.2 h1
      clear h1
      go_wp2
      go_ret
      exact ⟨_, rfl, by rw [HV.out]; exact er_no11 _ _ (by decide), HB2.out⟩
    · have HS2 := Lib.hid (show s = if (lyE t p.data.toList).2.1 ≠ 0 then 4 else 0 by rw [HS1.out, if_neg (by rw [h1]; decide), if_neg (by rw [h1]; decide)])
      have g1 : (E.2.1 == 0) = false := by rw [h1]; rfl
      have g2 : (E.2.1 == 1) = false := by rw [h1]; rfl
      have HLP := Lib.hid (HL.out p w2 HB2.out)
      obtain ⟨F, hF⟩ : ∃ F, lyE t p.data.toList = F := ⟨_, rfl⟩
      rw [hF] at HS2 HLP
      clear h1 HS1 hF HL
      go_wp2_with fail
      refine (HLP.out).mono ?_
      rintro e w3 ⟨rfl, hb⟩
      have HB3 := Lib.hid (HB2.out.trans (hb.mono HB2.out.size))
      clear hb
      by_cases h3 : F.2.1 = 0
      · have HV := Lib.hid (show s = 0 by rw [HS2.out, if_neg (not_not_intro h3)])
        have g3 : (F.2.1 == 0) = true := beq_iff_eq.2 h3
        have g4 : (F.2.1 != 0) = false := by rw [bne, g3]; rfl
        clear h3
        go_wp2
        go_ret
        exact ⟨_, rfl, by rw [HV.out]; exact er_nil _, HB3.out⟩
      · have HV := Lib.hid (show s = 4 by rw [HS2.out, if_pos h3])
        have g3 : (F.2.1 == 0) = false := beq_eq_false_iff_ne.2 h3
        have g4 : (F.2.1 != 0) = true := by rw [bne, g3]; rfl
        clear h3
        go_wp2
        go_ret
        exact ⟨_, rfl, by rw [HV.out]; exact er_no11 _ _ (by decide), HB3.out⟩
  · have HS1 := Lib.hid (show s = hsV p.data.toList by rw [HS.out, if_pos h0])
    obtain ⟨u, y, rfl⟩ := herr.iface
    have HER := Lib.hid herr
    have H0 := Lib.hid h0
    clear herr HS h0 hd HL
    go_wp2
    go_ret
    exact ⟨_, rfl, by rw [HS1.out]; exact .inr ⟨H0.out, HER.out⟩, HB1.out⟩
/-- What made answers. -/
def mdV (t : List Ent) (x : Ent) : Int × List Ent := if plcV t (pl x) ≠ 0 then (plcV t (pl x), []) else (0, wth t x)
theorem mkV_md {t : List Ent} (hl : t.length ≤ 900) (p : ByteArray) (k : Int) : mkV t p k = mdV t (p, k, ⟨#[]⟩) := by
  unfold mkV mdV upTo
  have := wth_le t (p, k, ⟨#[]⟩)
  rw [if_neg (show ¬ 1024 < (wth t (p, k, ⟨#[]⟩)).length by omega)]
set_option maxRecDepth 10000 in
set_option maxHeartbeats 2000000 in
theorem made11 (t : List Ent) (a : Option Addr) (cap : Nat) (x : Ent) (w : World) (h : Ents w a cap t) (ht : TreeL t) (hl : t.length ≤ 900) (hp : x.1.size ≤ 100000) :
    Calls Tryd.prog 24 #[.slice a t.length cap, enV x] w (Ans11 (mdV t x) w) := by
  obtain ⟨W, hW⟩ : ∃ W, w.alloc (.cells #[.string x.1, .int .i64 x.2.1, .string x.2.2] 41) = W := ⟨_, rfl⟩
  obtain ⟨N, hN⟩ : ∃ N, w.heap.size = N := ⟨_, rfl⟩
  have hb0 : Below w.heap.size w W := by rw [← hW]; exact (Below.refl _ _).alloc (Nat.le_refl _) _
  have HE := Lib.hid (RowN.below h hb0)
  have HR0 := Lib.hid (show EnAt W N x.1 x.2.1 x.2.2 by rw [← hW, ← hN]; exact enAt_new _ _ _ _)
  have HB0 := Lib.hid hb0
  have HT := Lib.hid ht
  have HA := Lib.hid ht.2.1.2.1
  have c0 := HR0.out.c0
  have HC := Lib.hid (vacant11 t a cap x.1 W HE.out ht hl hp)
  rw [show x.1.data.toList = pl x from rfl] at HC
  have g64 : ((t.length : Int) == 1024) = false := by rw [beq_eq_false_iff_ne]; omega
  have HL := Lib.hid hl
  have HMV := Lib.hid (show mdV t x = if plcV t (pl x) ≠ 0 then (plcV t (pl x), []) else (0, wth t x) from rfl)
  obtain ⟨r, hr⟩ : ∃ r, mdV t x = r := ⟨_, rfl⟩
  rw [hr] at HMV ⊢
  clear h ht hl hp hb0 hr
  go_enter Tryd.func24, Tryd.ntmps24
  go_wp2_with fail
  refine (HC.out).mono ?_
  rintro e w1 ⟨er, rfl, her, hb⟩
  have HB1 := Lib.hid (HB0.out.trans (hb.mono HB0.out.size))
  have HE1 := Lib.hid (RowN.below HE.out hb)
  have HR1 := Lib.hid (HR0.out.below hb)
  clear hb c0
  rcases her with ⟨h0, rfl⟩ | ⟨h0, herr⟩
  · have HV := Lib.hid (show r = (0, wth t x) by rw [HMV.out, if_neg (not_not_intro h0)])
    have HW := Lib.hid (with11 t a cap x w1 HE1.out HA.out (by have := HL.out; omega) (plcV_ok HA.out h0).2.2.2)
    have c0 := HR1.out.c0
    have c1 := HR1.out.c1
    have c2 := HR1.out.c2
    clear h0 HMV
    go_wp2_with fail
    refine (HW.out).mono ?_
    rintro e w2 ⟨a', cap', rfl, h2, hb⟩
    have HB2 := Lib.hid (HB1.out.trans (hb.mono HB1.out.size))
    have H2 := Lib.hid h2
    clear hb h2 c0 c1 c2
    go_wp2
    go_ret2
    exact ⟨a', cap', .nilIface, by rw [HV.out]; rfl, by rw [HV.out]; exact H2.out, by rw [HV.out]; exact er_nil _, HB2.out⟩
  · have HV := Lib.hid (show r = (plcV t (pl x), []) by rw [HMV.out, if_pos h0])
    obtain ⟨u, y, rfl⟩ := herr.iface
    have HER := Lib.hid herr
    have H0 := Lib.hid h0
    clear herr HMV h0
    go_wp2
    go_ret2
    exact ⟨none, 0, _, by rw [HV.out]; rfl, by rw [HV.out]; exact ents_nil _ _ _, by rw [HV.out]; exact .inr ⟨H0.out, HER.out⟩, HB1.out⟩
set_option maxRecDepth 10000 in
set_option maxHeartbeats 2000000 in
theorem create11 (t : List Ent) (a : Option Addr) (cap : Nat) (p : ByteArray) (w : World) (h : Ents w a cap t) (ht : TreeL t) (hl : t.length ≤ 900) (hp : p.size ≤ 100000) :
    Calls Tryd.prog 9 #[.slice a t.length cap, .string p] w (Ans11 (mkV t p 1) w) := by
  rw [mkV_md hl]
  have HE := Lib.hid h
  have HC : Hid (∀ W, Below w.heap.size w W → _) := fun W hW => made11 t a cap (p, 1, ⟨#[]⟩) W (RowN.below HE.out hW) ht hl hp
  have HA := Lib.hid (fun o n v W h => at_er o p n v W h)
  obtain ⟨r, hr⟩ : ∃ r, mdV t (p, 1, ⟨#[]⟩) = r := ⟨_, rfl⟩
  rw [hr] at HC ⊢
  clear h ht hl hp hr
  go_enter Tryd.func9, Tryd.ntmps9
  go_wp2_with fail
  refine (HC.out _ (by first | exact Below.refl _ _ | exact (Below.refl _ _).alloc (Nat.le_refl _) _)).mono ?_
  rintro e w1 ⟨a', cap', er, rfl, h1, her, hb⟩
  have HB1 := Lib.hid (show Below w.heap.size w w1 by first | exact hb | exact ((Below.refl _ _).alloc (Nat.le_refl _) _).trans (hb.mono (by simp)))
  have H1 := Lib.hid h1
  have HER := Lib.hid her
  clear hb h1 her
  go_wp2_with fail
  refine (HA.out _ _ _ _ HER.out).mono ?_
  rintro e w2 ⟨er2, rfl, her, hb⟩
  have HB2 := Lib.hid (HB1.out.trans (hb.mono HB1.out.size))
  have H2 := Lib.hid (RowN.below H1.out hb)
  have HER2 := Lib.hid her
  clear hb her
  go_wp2
  go_ret2
  exact ⟨a', cap', er2, rfl, H2.out, HER2.out, HB2.out⟩
set_option maxRecDepth 10000 in
set_option maxHeartbeats 2000000 in
theorem mkdir11 (t : List Ent) (a : Option Addr) (cap : Nat) (p : ByteArray) (w : World) (h : Ents w a cap t) (ht : TreeL t) (hl : t.length ≤ 900) (hp : p.size ≤ 100000) :
    Calls Tryd.prog 16 #[.slice a t.length cap, .string p] w (Ans11 (mkV t p 2) w) := by
  rw [mkV_md hl]
  have HE := Lib.hid h
  have HC : Hid (∀ W, Below w.heap.size w W → _) := fun W hW => made11 t a cap (p, 2, ⟨#[]⟩) W (RowN.below HE.out hW) ht hl hp
  have HA := Lib.hid (fun o n v W h => at_er o p n v W h)
  obtain ⟨r, hr⟩ : ∃ r, mdV t (p, 2, ⟨#[]⟩) = r := ⟨_, rfl⟩
  rw [hr] at HC ⊢
  clear h ht hl hp hr
  go_enter Tryd.func16, Tryd.ntmps16
  go_wp2_with fail
  refine (HC.out _ (by first | exact Below.refl _ _ | exact (Below.refl _ _).alloc (Nat.le_refl _) _)).mono ?_
  rintro e w1 ⟨a', cap', er, rfl, h1, her, hb⟩
  have HB1 := Lib.hid (show Below w.heap.size w w1 by first | exact hb | exact ((Below.refl _ _).alloc (Nat.le_refl _) _).trans (hb.mono (by simp)))
  have H1 := Lib.hid h1
  have HER := Lib.hid her
  clear hb h1 her
  go_wp2_with fail
  refine (HA.out _ _ _ _ HER.out).mono ?_
  rintro e w2 ⟨er2, rfl, her, hb⟩
  have HB2 := Lib.hid (HB1.out.trans (hb.mono HB1.out.size))
  have H2 := Lib.hid (RowN.below H1.out hb)
  have HER2 := Lib.hid her
  clear hb her
  go_wp2
  go_ret2
  exact ⟨a', cap', er2, rfl, H2.out, HER2.out, HB2.out⟩
end Go.Proofs.YtgpipljhpkhffaaDoor
