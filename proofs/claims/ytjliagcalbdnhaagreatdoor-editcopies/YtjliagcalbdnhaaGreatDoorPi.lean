/-
  Contracts of the landed package edit's laid, fresh and copied: an entry laid into an upper layer, behind its directories. Conditions: the lists lie in memory; what laying asks (Gd14).
  Contracts of slices.Grow of nil and of slices.Concat, of stacks of layers, and of the landed package edit's over: the stack that is seen. Conditions: the stacks lie in memory, have at most 500 layers in all.
  Contracts of slices.Clone of entries, of the landed package edit's closure that tells what goes with a path, and of slices.IndexFunc and slices.DeleteFunc with it. Conditions: the list lies in memory, has at most 1000 entries, texts of at most 100000 bytes.
  The contract of the landed package edit's removed: an upper layer without what lies at a path, and with a whiteout there, if the lower ones show something. Conditions: the lists lie in memory; a stack that can be looked at.
  Contracts of the landed package edit's deeds (a map of functions in fields), of its seven functions, of Right and of On: On answers as On14 says. Conditions: as there.
  The landed package edit's followed: what becomes of the upper layer, where chapter 11 does not refuse an op. Conditions: the lists lie in memory; a stack that can be looked at; an op that is right, of a size that is looked at.
  The landed package edit's On answers as On14 says (on14c), over Tree11: a call through the map of its deeds. Conditions: as there.
-/
import Derived.Test.YtjliagcalbdnhaaGreatDoorPb
import Derived.Test.YtjliagcalbdnhaaGreatDoorS14Spec
import Derived.Test.YtjliagcalbdnhaaGreatDoorPh
import Derived.Test.YtjliagcalbdnhaaGreatDoorS13Par
import Derived.Test.YtjliagcalbdnhaaGreatDoorS11SpecR
import Derived.Test.YtjliagcalbdnhaaGreatDoorPc
import Derived.Lib.AppendZerosOnto
import Derived.Lib.Walk
import Derived.Deep.LoopGhost
import Derived.Lib.Hide
import Derived.IntWalk
import Derived.Test.YtjliagcalbdnhaaGreatDoorPa
import Derived.Test.YtjliagcalbdnhaaGreatDoorRowSet
import Derived.Lib.SliceRun
import Derived.Test.YtjliagcalbdnhaaGreatDoorPe
import Derived.Test.YtjliagcalbdnhaaGreatDoorMapOf
import Derived.Test.YtjliagcalbdnhaaGreatDoorAtEr
import Derived.RegionTactic
import Derived.BigQuiet
import Derived.Deep.RegionHeld3
namespace Go.Proofs.YtjliagcalbdnhaaGreatDoor
open Go.RowKit

theorem sm_one14 {e : Ent} (h : rE e = true) : Sm [e] := ⟨by simp, fun x hx => by
  obtain rfl : x = e := by simpa using hx
  obtain ⟨h1, _, _, h4, _⟩ := rightE_parts h
  have h54 := isP_len (isP_of_dp h1)
  rw [← Lib.size_eq] at h54
  omega⟩
theorem find14 {u : List Ent} (hU : RightL u) (q : List UInt8) : ∃ z : Ent, fdV u q = (z, (fnd u q).isSome) := by
  unfold fdV
  rw [if_pos hU]
  cases fnd u q with
  | none => exact ⟨_, rfl⟩
  | some e => exact ⟨_, rfl⟩
set_option maxRecDepth 10000 in
set_option maxHeartbeats 8000000 in
theorem laid14 : ∀ p, isP p → ∀ (u : List Ent) (e : Ent) (a : Option Addr) (cap : Nat) (w : World), pl e = p → Ents w a cap u → Gd14 u e → Calls Tryz.prog 59 #[.slice a u.length cap, enV e] w (Ans11 (ans14 (lay14 u e)) w) := by
  refine path_ind ?_ fun p hp hr ih => ?_
  · intro u e a cap w he _ hG
    exact absurd he (rE_isP hG.2.1).2
  · intro u e a cap w he h hG
    subst he
    obtain ⟨W, hW⟩ : ∃ W, w.alloc (.cells #[.string e.1, .int .i64 e.2.1, .string e.2.2] 46) = W := ⟨_, rfl⟩
    obtain ⟨N, hN⟩ : ∃ N, w.heap.size = N := ⟨_, rfl⟩
    have hb0 : Below w.heap.size w W := by rw [← hW]; exact (Below.refl _ _).alloc (Nat.le_refl _) _
    have hE0 : EnAt W N e.1 e.2.1 e.2.2 := by rw [← hW, ← hN]; exact enAt_new _ _ _ _
    have c0 := hE0.c0
    have HE := Lib.hid (RowN.below h hb0)
    have HEN := Lib.hid hE0
    have HB0 := Lib.hid hb0
    have HP := Lib.hid (parent13 e.1 hp hr W)
    have HG := Lib.hid hG
    have HSM := Lib.hid (sm_right14 hG.1)
    have HS1 := Lib.hid (sm_one14 hG.2.1)
    have HIH := Lib.hid ih
    have HQR := Lib.hid (par9_isP hp hr).1
    clear ih hp hr h hG hb0 hE0
    go_enter Tryz.func59, Tryz.ntmps59
    go_wp2_with fail
    refine (HP.out).mono ?_
    rintro r w1 ⟨d, n, rfl, hd, -, hb⟩
    obtain ⟨q, hq⟩ : ∃ q, par9 (pl e) = q := ⟨_, rfl⟩
    rw [show par9 e.1.data.toList = q from hq] at hd
    have HB1 := Lib.hid (HB0.out.trans (hb.mono HB0.out.size))
    have HE1 := Lib.hid (RowN.below HE.out hb)
    have HEN1 := Lib.hid (HEN.out.below hb)
    have HF := Lib.hid (find9 u a cap d w1 HE1.out HSM.out)
    have HD := Lib.hid hd
    have HQ := Lib.hid hq
    obtain ⟨z, hz⟩ := find14 HG.out.1 d.data.toList
    rw [hz] at HF
    rw [hd] at HF
    clear hb c0 hd hq hz
    cases hf : fnd u q with
    | some x =>
      rw [hf] at HF
      have HH := Lib.hid (lay_here HG.out (.inr (by rw [HQ.out, hf]; simp)))
      rw [show (some x).isSome = true from rfl] at HF
      clear hf
      go_wp2_with fail
      refine (HF.out).mono ?_
      rintro r w2 ⟨rfl, hb⟩
      have HB2 := Lib.hid (HB1.out.trans (hb.mono HB1.out.size))
      have HE2 := Lib.hid (RowN.below HE1.out hb)
      have HEN2 := Lib.hid (HEN1.out.below hb)
      clear hb
      obtain ⟨W2, hW2⟩ : ∃ W2, w2.alloc (.cells #[.string z.1, .int .i64 z.2.1, .string z.2.2] 46) = W2 := ⟨_, rfl⟩
      have hb2 : Below w2.heap.size w2 W2 := by rw [← hW2]; exact (Below.refl _ _).alloc (Nat.le_refl _) _
      have HB3 := Lib.hid (HB2.out.trans (hb2.mono HB2.out.size))
      have HE3 := Lib.hid (RowN.below HE2.out hb2)
      have h3 := HEN2.out.below hb2
      have c0 := h3.c0
      have c1 := h3.c1
      have c2 := h3.c2
      have HPT := Lib.hid (put9 u a cap e W2 HE3.out HSM.out HS1.out)
      clear h3 hb2
      go_wp2_with fail
      refine (HPT.out).mono ?_
      rw [HH.out.2]
      rintro r w4 ⟨a4, cap4, er4, rfl, h4, her4, hb4⟩
      have HB4 := Lib.hid (HB3.out.trans (hb4.mono HB3.out.size))
      have H4 := Lib.hid h4
      have HER := Lib.hid her4
      clear h4 her4 hb4 c0 c1 c2
      go_wp2
      go_ret2
      exact ⟨a4, cap4, er4, rfl, H4.out, HER.out, by first | exact HB4.out | (rw [hN]; exact HB4.out) | (rw [← hN]; exact HB4.out)⟩
    | none =>
      rw [hf] at HF
      rw [show (none : Option Ent).isSome = false from rfl] at HF
      by_cases hr9 : q = [47]
      · have HH := Lib.hid (lay_here HG.out (.inl (by rw [HQ.out]; exact hr9)))
        have g1 : (d.toList == [47]) = true := by rw [Lib.toList_data, HD.out, beq_iff_eq]; exact hr9
        clear hf hr9
        go_wp2_with fail
        refine (HF.out).mono ?_
        rintro r w2 ⟨rfl, hb⟩
        have HB2 := Lib.hid (HB1.out.trans (hb.mono HB1.out.size))
        have HE2 := Lib.hid (RowN.below HE1.out hb)
        have HEN2 := Lib.hid (HEN1.out.below hb)
        clear hb
        obtain ⟨W2, hW2⟩ : ∃ W2, w2.alloc (.cells #[.string z.1, .int .i64 z.2.1, .string z.2.2] 46) = W2 := ⟨_, rfl⟩
        have hb2 : Below w2.heap.size w2 W2 := by rw [← hW2]; exact (Below.refl _ _).alloc (Nat.le_refl _) _
        have HB3 := Lib.hid (HB2.out.trans (hb2.mono HB2.out.size))
        have HE3 := Lib.hid (RowN.below HE2.out hb2)
        have h3 := HEN2.out.below hb2
        have c0 := h3.c0
        have c1 := h3.c1
        have c2 := h3.c2
        have HPT := Lib.hid (put9 u a cap e W2 HE3.out HSM.out HS1.out)
        clear h3 hb2
        go_wp2_with fail
        refine (HPT.out).mono ?_
        rw [HH.out.2]
        rintro r w4 ⟨a4, cap4, er4, rfl, h4, her4, hb4⟩
        have HB4 := Lib.hid (HB3.out.trans (hb4.mono HB3.out.size))
        have H4 := Lib.hid h4
        have HER := Lib.hid her4
        clear h4 her4 hb4 c0 c1 c2
        go_wp2
        go_ret2
        exact ⟨a4, cap4, er4, rfl, H4.out, HER.out, by first | exact HB4.out | (rw [hN]; exact HB4.out) | (rw [← hN]; exact HB4.out)⟩
      · have HH := Lib.hid (lay_up HG.out (by rw [HQ.out]; exact hr9) (by rw [HQ.out]; exact hf))
        have g1 : (d.toList == [47]) = false := by rw [Lib.toList_data, HD.out, beq_eq_false_iff_ne]; exact hr9
        have HDE := Lib.hid (show d = ⟨q.toArray⟩ from ba_ext (by rw [HD.out]))
        obtain ⟨r1, hr1⟩ : ∃ r1, ans14 (lay14 u (dP q)) = r1 := ⟨_, rfl⟩
        rw [HQ.out, hr1] at HH
        have HGD := Lib.hid (show Gd14 u (dP q) from HH.out.elim (fun h => h.1) (fun h => h.1))
        have HRX := Lib.hid (show RightL r1.2 by rw [← hr1]; exact ans_right HGD.out.2.2.1)
        have HI : Hid (∀ w, Ents w a cap u → Calls Tryz.prog 59 #[.slice a u.length cap, .agg #[.string d, .int .i64 2, .string ⟨#[]⟩]] w (Ans11 r1 w)) := fun w hw => by
          rw [HDE.out]
          have := HIH.out u (dP q) a cap w ((pl_dP q).trans HQ.out.symm) hw HGD.out
          rw [hr1] at this
          exact this
        clear hf hr9 hr1
        go_wp2_with fail
        refine (HF.out).mono ?_
        rintro r w2 ⟨rfl, hb⟩
        have HB2 := Lib.hid (HB1.out.trans (hb.mono HB1.out.size))
        have HE2 := Lib.hid (RowN.below HE1.out hb)
        have HEN2 := Lib.hid (HEN1.out.below hb)
        clear hb
        obtain ⟨W2, hW2⟩ : ∃ W2, w2.alloc (.cells #[.string z.1, .int .i64 z.2.1, .string z.2.2] 46) = W2 := ⟨_, rfl⟩
        have hb2 : Below w2.heap.size w2 W2 := by rw [← hW2]; exact (Below.refl _ _).alloc (Nat.le_refl _) _
        have HB3 := Lib.hid (HB2.out.trans (hb2.mono HB2.out.size))
        have HE3 := Lib.hid (RowN.below HE2.out hb2)
        have HEN3 := Lib.hid (HEN2.out.below hb2)
        have HII := Lib.hid (HI.out W2 HE3.out)
        clear hb2
        go_wp2_with fail
        refine (HII.out).mono ?_
        rintro r w4 ⟨a4, cap4, er4, rfl, h4, her4, hb4⟩
        have HB4 := Lib.hid (HB3.out.trans (hb4.mono HB3.out.size))
        have HEN4 := Lib.hid (HEN3.out.below hb4)
        have H4 := Lib.hid h4
        have HER := Lib.hid her4
        clear h4 her4 hb4
        rcases HH.out with ⟨_, k1, k2⟩ | ⟨_, k1, k2⟩
        · obtain rfl : er4 = .nilIface := by
            rcases HER.out with ⟨_, h9⟩ | ⟨h9, _⟩
            · exact h9
            · exact absurd k1 h9
          have HK := Lib.hid k2
          have h3 := HEN4.out
          have c0 := h3.c0
          have c1 := h3.c1
          have c2 := h3.c2
          have HPT := Lib.hid (put9 r1.2 a4 cap4 e w4 H4.out (sm_right14 HRX.out) HS1.out)
          clear h3 k1 k2 HH
          go_wp2_with fail
          refine (HPT.out).mono ?_
          rw [HK.out]
          rintro r w5 ⟨a5, cap5, er5, rfl, h5, her5, hb5⟩
          have HB5 := Lib.hid (HB4.out.trans (hb5.mono HB4.out.size))
          have H5 := Lib.hid h5
          have HER5 := Lib.hid her5
          clear h5 her5 hb5 c0 c1 c2
          go_wp2
          go_ret2
          exact ⟨a5, cap5, er5, rfl, H5.out, HER5.out, by first | exact HB5.out | (rw [hN]; exact HB5.out) | (rw [← hN]; exact HB5.out)⟩
        · have HK := Lib.hid k2
          have HR9 := Lib.hid (show r1.1 = 9 by rw [k1])
          obtain ⟨uu, yy, rfl⟩ : ∃ uu yy, er4 = .iface uu yy := by
            rcases HER.out with ⟨h9, _⟩ | ⟨_, h9⟩
            · rw [HR9.out] at h9
              cases h9
            · exact h9.iface
          clear k1 k2 HH
          go_wp2
          go_ret2
          exact ⟨none, 0, _, by rw [HK.out]; rfl, by rw [HK.out]; exact ents_nil _ _ _, by rw [HK.out]; have := HER.out; rw [HR9.out] at this; exact this, by first | exact HB4.out | (rw [hN]; exact HB4.out) | (rw [← hN]; exact HB4.out)⟩
set_option maxRecDepth 10000 in
set_option maxHeartbeats 2000000 in
theorem freshC14 (u : List Ent) (a : Option Addr) (cap : Nat) (p : ByteArray) (w : World) (h : Ents w a cap u) (hU : RightL u) : Calls Tryz.prog 60 #[.slice a u.length cap, .string p] w fun e w' => e = .returned (.int .i64 (fresh14 u p)) ∧ Below w.heap.size w w' := by
  have HF := Lib.hid (find9 u a cap p w h (sm_right14 hU))
  unfold fdV at HF
  rw [if_pos hU] at HF
  unfold fresh14
  clear h hU
  cases hf : fnd u p.data.toList with
  | none =>
    rw [hf] at HF
    clear hf
    go_enter Tryz.func60, Tryz.ntmps60
    go_wp2_with fail
    refine (HF.out).mono ?_
    rintro r w1 ⟨rfl, hb⟩
    have HB1 := Lib.hid hb
    clear hb
    go_wp2
    go_ret
    exact ⟨rfl, HB1.out.alloc HB1.out.size _⟩
  | some x =>
    rw [hf] at HF
    clear hf
    simp only at HF ⊢
    by_cases h3 : x.2.1 = 3
    · have g3 : (x.2.1 == 3) = true := by rw [beq_iff_eq]; exact h3
      rw [if_pos h3]
      clear h3
      go_enter Tryz.func60, Tryz.ntmps60
      go_wp2_with fail
      refine (HF.out).mono ?_
      rintro r w1 ⟨rfl, hb⟩
      have HB1 := Lib.hid hb
      clear hb
      go_wp2
      go_ret
      exact ⟨rfl, HB1.out.alloc HB1.out.size _⟩
    · have g3 : (x.2.1 == 3) = false := by rw [beq_eq_false_iff_ne]; exact h3
      rw [if_neg h3]
      clear h3
      go_enter Tryz.func60, Tryz.ntmps60
      go_wp2_with fail
      refine (HF.out).mono ?_
      rintro r w1 ⟨rfl, hb⟩
      have HB1 := Lib.hid hb
      clear hb
      go_wp2
      go_ret
      exact ⟨rfl, HB1.out.alloc HB1.out.size _⟩
set_option maxRecDepth 10000 in
set_option maxHeartbeats 2000000 in
/-- A tree's file, laid. -/
theorem copied14 (R : Read11) (u t : List Ent) (a a2 : Option Addr) (cap cap2 : Nat) (p d : ByteArray) (w : World) (h : Ents w a cap u) (ht : Ents w a2 cap2 t) (hT : TreeL t) (hl : t.length ≤ 900) (hp : p.size ≤ 100000) (hG : Gd14 u (p, 1, d)) (hr : rdV t p.data.toList = (0, d)) (hg : EtLaid w) :
    Calls Tryz.prog 62 #[.slice a u.length cap, .slice a2 t.length cap2, .string p] w (Ans11 (ans14 (lay14 u (p, 1, d))) w) := by
  have HR := Lib.hid (R t a2 cap2 p w hg ht hT hl hp)
  rw [hr] at HR
  have HE := Lib.hid h
  have HL : Hid (∀ w, Ents w a cap u → Calls Tryz.prog 59 #[.slice a u.length cap, .agg #[.string p, .int .i64 1, .string d]] w (Ans11 (ans14 (lay14 u (p, 1, d))) w)) := fun w hw => laid14 p.data.toList (rE_isP hG.2.1).1 u (p, 1, d) a cap w rfl hw hG
  obtain ⟨v, hv⟩ : ∃ v, ans14 (lay14 u (p, 1, d)) = v := ⟨_, rfl⟩
  rw [hv] at HL ⊢
  clear h ht hT hl hp hG hr hg hv
  go_enter Tryz.func62, Tryz.ntmps62
  go_wp2_with fail
  refine (HR.out).mono ?_
  rintro r w1 ⟨er, rfl, her, hb⟩
  obtain rfl : er = .nilIface := by
    rcases her with ⟨_, h9⟩ | ⟨h9, _⟩
    · exact h9
    · exact absurd rfl h9
  have HB1 := Lib.hid hb
  have HLL := Lib.hid (HL.out w1 (RowN.below HE.out hb))
  clear hb her
  go_wp2_with fail
  refine (HLL.out).mono ?_
  rintro r w2 ⟨a4, cap4, er4, rfl, h4, her4, hb4⟩
  have HB4 := Lib.hid (HB1.out.trans (hb4.mono HB1.out.size))
  have H4 := Lib.hid h4
  have HER := Lib.hid her4
  clear h4 her4 hb4
  go_wp2
  go_ret2
  exact ⟨a4, cap4, er4, rfl, H4.out, HER.out, HB4.out⟩
end Go.Proofs.YtjliagcalbdnhaaGreatDoor

namespace Go.Proofs.YtjliagcalbdnhaaGreatDoor
open Go.RowKit

/-- Stacks of layers in memory. -/
def Stks (w : World) (a : Option Addr) (cap : Nat) (T : List (List (List Ent))) : Prop :=
  T.length ≤ cap ∧ (T = [] ∨ ∃ b off, a = some ⟨b, off, none⟩ ∧ b < w.heap.size ∧ ∀ (j : Nat) S, T[j]? = some S → ∃ a' cap', w.cell? ⟨b, off + j, none⟩ = some (.slice a' S.length cap') ∧ Stk w a' cap' S)
theorem Stks.below {w w' : World} {a : Option Addr} {cap : Nat} {T : List (List (List Ent))} (h : Stks w a cap T) (hb : Below w.heap.size w w') : Stks w' a cap T := by
  obtain ⟨h1, h2⟩ := h
  refine ⟨h1, h2.imp_right ?_⟩
  rintro ⟨b, off, rfl, hlt, hc⟩
  refine ⟨b, off, rfl, Nat.lt_of_lt_of_le hlt hb.size, fun j l hl => ?_⟩
  obtain ⟨a', cap', h3, h4⟩ := hc j l hl
  exact ⟨a', cap', (hb.cell (p := ⟨b, off + j, none⟩) hlt).trans h3, h4.below hb⟩
theorem Stks.at {w w' : World} {a : Option Addr} {cap : Nat} {T : List (List (List Ent))} (h : Stks w a cap T) (hb : Below w.heap.size w w') {k : Nat} (hk : k < T.length) :
    ∃ b off a' cap', a = some ⟨b, off, none⟩ ∧ w'.cell? ⟨b, off + k, none⟩ = some (.slice a' (T[k]).length cap') ∧ Stk w a' cap' T[k] := by
  rcases h.2 with h0 | ⟨b, off, rfl, hlt, hc⟩
  · rw [h0] at hk; simp at hk
  · obtain ⟨a', cap', h3, h4⟩ := hc k T[k] (List.getElem?_eq_getElem hk)
    exact ⟨b, off, a', cap', rfl, (hb.cell (p := ⟨b, off + k, none⟩) hlt).trans h3, h4⟩
theorem stks_two {w : World} {M : Nat} {a b : Option Addr} {c d : Nat} {S R : List (List Ent)} {t : TypeId} (hM : w.heap[M]? = some (.cells #[.slice a S.length c, .slice b R.length d] t (0, 0))) (h1 : Stk w a c S) (h2 : Stk w b d R) : Stks w (some ⟨M, 0, none⟩) 2 [S, R] := by
  refine ⟨Nat.le_refl _, .inr ⟨M, 0, rfl, (Array.getElem?_eq_some_iff.1 hM).1, fun j l hl => ?_⟩⟩
  match j, hl with
  | 0, hl => obtain rfl : S = l := by simpa using hl
             exact ⟨a, c, by simp [World.cell?, hM], h1⟩
  | 1, hl => obtain rfl : R = l := by simpa using hl
             exact ⟨b, d, by simp [World.cell?, hM], h2⟩
set_option maxRecDepth 100000 in
set_option maxHeartbeats 2000000 in
theorem growS14 (n : Nat) (hn : n ≤ 1000) (W0 w : World) (hb : Below W0.heap.size W0 w) : Calls Tryz.prog 97 #[.slice none 0 0, .int .i64 (n : Int)] w fun e w' => ∃ v, e = .returned v ∧ OwnS W0 w' v [] ∧ Below W0.heap.size W0 w' := by
  by_cases h0 : n = 0
  · subst h0
    have HB := Lib.hid hb
    clear hb hn
    go_enter Tryz.func97, Tryz.ntmps97
    go_wp2
    go_ret
    exact ⟨_, rfl, ⟨[], ⟨rfl, .inl ⟨rfl, rfl⟩⟩, rfl, by simp⟩, HB.out⟩
  · obtain ⟨ie, hie, hz, hsz, hby⟩ := info_parts infoEnsR
    have h1 : ¬ ((n : Int) < 0) := by omega
    have h4 : (0 : Int) < (n : Int) := by omega
    have hrz : ∀ ty, (Builtin.append_ #[22, 3] ty #[.slice none 0 0, .int .i64 (n : Int)]).run Tryz.prog w =
        .ok (.slice (some ⟨w.heap.size, 0, none⟩) n (grownCap w n 0 27)) (w.drew.alloc (.cells (Builtin.zeroCells (Value.slice none 0 0).cells n ++ Builtin.zeroCells (Value.slice none 0 0).cells (grownCap w n 0 27 - n)) 27)) := fun ty => by
      have h := Lib.run_append_grow_zeros w 22 3 ty 27 ie _ .i64 .i64 Tryz.underlying22 Tryz.underlying3 hie hz none 0 0 [] (by rw [hsz]; exact run_firstCells_none w.drew 1 0 0 0) n (by omega) (by omega) (by omega) (by omega) (by rw [hby]; omega) (by rw [hby]; exact growslice_fits (by omega) (by omega))
      rw [Nat.zero_add] at h
      simpa using h
    have hGn : n ≤ grownCap w n 0 27 := grownCap_ge w _ _ _
    have hGm : grownCap w n 0 27 ≤ maxLen := grownCap_le_maxLen w n 0 27 (by unfold maxLen; omega)
    obtain ⟨G, hG⟩ : ∃ G, grownCap w n 0 27 = G := ⟨_, rfl⟩
    rw [hG] at hrz hGn hGm
    have HO := Lib.hid (show OwnS W0 (w.drew.alloc (.cells (Builtin.zeroCells (Value.slice none 0 0).cells n ++ Builtin.zeroCells (Value.slice none 0 0).cells (G - n)) 27)) (.slice (some ⟨w.heap.size, 0, none⟩) 0 G) [] by
      refine ⟨[], ⟨rfl, .inr ⟨w.heap.size, G, _, rfl, hb.size, heap_alloc_new _ _, Nat.zero_le _, hGm, ?_, by simp⟩⟩, rfl, by simp⟩
      rw [Array.size_append, size_zeroCells, size_zeroCells]
      show n * 1 + (G - n) * 1 = G * 1
      omega)
    have HB := Lib.hid (show Below W0.heap.size W0 (w.drew.alloc (.cells (Builtin.zeroCells (Value.slice none 0 0).cells n ++ Builtin.zeroCells (Value.slice none 0 0).cells (G - n)) 27)) from (hb.drew).alloc hb.size _)
    have hG0 : (0 : Int) ≤ (G : Int) := by omega
    have HR := Lib.hid hrz
    clear hie hz hsz hby h0 hG hrz hGm hb
    go_enter Tryz.func97, Tryz.ntmps97
    go_wp2_with (at_builtin; refine Lib.wpList_append_run _ rfl _ _ _ _ rfl _ _ rfl rfl _ _ (HR.out _) ?_)
    go_ret
    exact ⟨_, rfl, HO.out, HB.out⟩
theorem flat_take14 {T : List (List (List Ent))} {k : Nat} (h : k < T.length) : (T.take (k + 1)).flatten = (T.take k).flatten ++ T[k] := by
  rw [take_get T k h, List.flatten_append]
  simp
theorem flat_take_le14 (T : List (List (List Ent))) (k : Nat) : (T.take k).flatten.length ≤ T.flatten.length := by
  conv => rhs; rw [← List.take_append_drop k T, List.flatten_append, List.length_append]
  omega
set_option maxRecDepth 10000 in
set_option maxHeartbeats 4000000 in
theorem concatS14 (T : List (List (List Ent))) (a : Option Addr) (cap : Nat) (w : World) (h : Stks w a cap T) (hT : T.length ≤ 100) (hl : T.flatten.length ≤ 500) : Calls Tryz.prog 54 #[.slice a T.length cap] w fun e w' => ∃ a' cap', e = .returned (.slice a' T.flatten.length cap') ∧ Stk w' a' cap' T.flatten ∧ Below w.heap.size w w' := by
  have HE := Lib.hid h
  have HS := Lib.hid hT
  have HL := Lib.hid hl
  obtain ⟨F, hF⟩ : ∃ F, T.flatten = F := ⟨_, rfl⟩
  rw [hF]
  have HF := Lib.hid hF
  clear h hT hl hF
  go_enter Tryz.func54, Tryz.ntmps54
  go_wp2
  go_loopg [3, 11] T.length (fun g z i wx => ∃ (k n : Nat), z = .int .i64 (n : Int) ∧ i = .int .i64 (k : Int) ∧ k + g = T.length ∧ Hid (n = (T.take k).flatten.length) ∧ w = wx)
  case atStart => exact ⟨0, 0, rfl, rfl, by omega, rfl, rfl⟩
  case round =>
    obtain ⟨k, n, rfl, rfl, hk, HI, rfl⟩ := hrel
    have hw : IntKind.i64.wrap ((k : Int) + 1) = (k : Int) + 1 := IntWalk.i64_in _ (by have := HS.out; omega)
    by_cases hlt : k < T.length
    · have hlt' : (k : Int) < (T.length : Int) := by omega
      obtain ⟨b, off, a', cap', rfl, hc, hE⟩ := Stks.at HE.out (Below.refl _ _) hlt
      have HT := Lib.hid (congrArg List.length (flat_take14 hlt))
      have HLE := Lib.hid (flat_take_le14 T (k + 1))
      obtain ⟨x, hx⟩ : ∃ x, T[k] = x := ⟨_, rfl⟩
      rw [hx] at hc HT
      have HN := Lib.hid (show n + x.length = (T.take (k + 1)).flatten.length by rw [HT.out, List.length_append, HI.out])
      have hw2 : IntKind.i64.wrap ((n : Int) + (x.length : Int)) = (n : Int) + (x.length : Int) := IntWalk.i64_in _ (by have := HN.out; have := HLE.out; have := HL.out; omega)
      have hneg : ¬ (n : Int) + (x.length : Int) < 0 := by omega
      clear hE hx
      go_wp2
      go_roundg (gk - 1)
      case measure => omega
      case rel => exact ⟨k + 1, n + x.length, by simp, by simp, by omega, HN.out, rfl⟩
    · have hlt' : ¬ (k : Int) < (T.length : Int) := by omega
      have HNL := Lib.hid (show n ≤ 1000 by have := HI.out; have := flat_take_le14 T k; have := HL.out; omega)
      go_wp2_with fail
      refine (growS14 n HNL.out w _ (Below.refl _ _)).mono ?_
      rintro e w1 ⟨v1, rfl, ho1, hb1⟩
      have HO1 := Lib.hid ho1
      have HB1 := Lib.hid hb1
      clear ho1 hb1
      go_wp2
      go_loopg [6, 27] T.length (fun g v i wx => ∃ (j : Nat), i = .int .i64 (j : Int) ∧ j + g = T.length ∧ Hid (OwnS w wx v (T.take j).flatten) ∧ Hid (Below w.heap.size w wx))
      case atStart => exact ⟨0, rfl, by omega, HO1.out, HB1.out⟩
      case round =>
        obtain ⟨j, rfl, hj, HO, HB⟩ := hrel
        have hw : IntKind.i64.wrap ((j : Int) + 1) = (j : Int) + 1 := IntWalk.i64_in _ (by have := HS.out; omega)
        by_cases hlt : j < T.length
        · have hlt' : (j : Int) < (T.length : Int) := by omega
          obtain ⟨b, off, a', cap', rfl, hc, hE⟩ := Stks.at HE.out HB.out hlt
          have HT := Lib.hid (flat_take14 hlt)
          have HLE := Lib.hid (flat_take_le14 T (j + 1))
          obtain ⟨x, hx⟩ : ∃ x, T[j] = x := ⟨_, rfl⟩
          rw [hx] at hc HT hE
          obtain ⟨hsx, HX⟩ := src_old hE HB.out
          have HLN := Lib.hid (show (T.take j).flatten.length + x.length ≤ 1000 by
            have h1 := congrArg List.length HT.out
            rw [List.length_append] at h1
            have := HLE.out
            have := HL.out
            omega)
          have HXX := Lib.hid HX
          clear hE hx HX
          go_wp2_with (at_builtin; refine Stopped.go ?_)
          unfold Stopped
          refine wl_catS (by rfl) _ _ (by rfl) w u6 _ x (by rfl) HO.out HB.out a' cap' (by rfl) hsx HXX.out HLN.out ?_
          intro v4 w4 ho4 hb4 _
          have HB4 := Lib.hid hb4
          have HO4 := Lib.hid ho4
          clear ho4 hb4
          go_wp2
          go_roundg (T.length - (j + 1))
          case measure => omega
          case rel => exact ⟨j + 1, by simp, by omega, by rw [HT.out]; exact HO4.out, HB4.out⟩
        · have hlt' : ¬ (j : Int) < (T.length : Int) := by omega
          have HO2 := Lib.hid (show OwnS w wr u6 F by have := HO.out; rw [List.take_of_length_le (by omega), HF.out] at this; exact this)
          go_wp2
          go_ret
          obtain ⟨a', cap', rfl, h2⟩ := stk_of_ownS HO2.out HB.out
          exact ⟨a', cap', rfl, h2, HB.out⟩
set_option maxRecDepth 10000 in
set_option maxHeartbeats 1000000 in
/-- The stack that is seen. -/
theorem over14 (S : List (List Ent)) (u : List Ent) (a a2 : Option Addr) (cap cap2 : Nat) (w : World) (h : Stk w a cap S) (hu : Ents w a2 cap2 u) (hS : S.length ≤ 100) :
    Calls Tryz.prog 30 #[.slice a S.length cap, .slice a2 u.length cap2] w fun e w' => ∃ a' cap', e = .returned (.slice a' (S ++ [u]).length cap') ∧ Stk w' a' cap' (S ++ [u]) ∧ Below w.heap.size w w' := by
  have hb1 : Below w.heap.size w (w.alloc (.cells #[.slice a2 u.length cap2] 27)) := (Below.refl _ _).alloc (Nat.le_refl _) _
  have hz : (w.alloc (.cells #[.slice a2 u.length cap2] 27)).heap.size = w.heap.size + 1 := by simp
  have hm1 : (w.alloc (.cells #[.slice a2 u.length cap2] 27)).heap[w.heap.size]? = some (.cells #[.slice a2 u.length cap2] 27 (0, 0)) := heap_alloc_new _ _
  have hs1 : Stk (w.alloc (.cells #[.slice a2 u.length cap2] 27)) (some ⟨w.heap.size, 0, none⟩) 1 [u] := by
    refine ⟨Nat.le_refl _, .inr ⟨w.heap.size, 0, rfl, by omega, fun j l hl => ?_⟩⟩
    obtain ⟨rfl, rfl⟩ : j = 0 ∧ u = l := by
      cases j with
      | zero => exact ⟨rfl, by simpa using hl⟩
      | succ j => simp at hl
    exact ⟨a2, cap2, (cell_of8 hm1 (j := 0 + 0) rfl).1, RowN.below hu hb1⟩
  have hk1 := h.below hb1
  have HE : Hid (∀ W, W = (w.alloc (.cells #[.slice a2 u.length cap2] 27)) → Calls Tryz.prog 54 #[.slice (some ⟨w.heap.size + 1, 0, none⟩) 2 2] (W.alloc (.cells #[.slice a S.length cap, .slice (some ⟨w.heap.size, 0, none⟩) 1 1] 22)) fun e w' => ∃ a' cap', e = .returned (.slice a' (S ++ [u]).length cap') ∧ Stk w' a' cap' (S ++ [u]) ∧ Below w.heap.size w w') := fun W hW => by
    subst hW
    generalize w.alloc (.cells #[.slice a2 u.length cap2] 27) = W at hb1 hz hs1 hk1
    have hb2 : Below W.heap.size W (W.alloc (.cells #[.slice a S.length cap, .slice (some ⟨w.heap.size, 0, none⟩) 1 1] 22)) := (Below.refl _ _).alloc (Nat.le_refl _) _
    have hm2 := heap_alloc_new W (.cells #[.slice a S.length cap, .slice (some ⟨w.heap.size, 0, none⟩) 1 1] 22)
    rw [hz] at hm2
    have hc := concatS14 [S, [u]] (some ⟨w.heap.size + 1, 0, none⟩) 2 _ (stks_two hm2 (hk1.below hb2) (hs1.below hb2)) (by simp) (by simp; omega)
    rw [show [S, [u]].flatten = S ++ [u] by simp] at hc
    refine hc.mono ?_
    rintro e w' ⟨a', cap', rfl, hk, hb⟩
    exact ⟨a', cap', rfl, hk, hb1.trans ((hb2.trans (hb.mono hb2.size)).mono hb1.size)⟩
  have HE2 := Lib.hid (HE.out _ rfl)
  clear HE hb1 hz hm1 hs1 hk1 h hu hS
  go_enter Tryz.func30, Tryz.ntmps30
  go_wp2_with fail
  refine (HE2.out).mono ?_
  rintro e w1 ⟨a', cap', rfl, hk, hb⟩
  have HK := Lib.hid hk
  have HB := Lib.hid hb
  clear hk hb HE2
  go_wp2
  go_ret
  exact ⟨a', cap', by first | rfl | simp, HK.out, HB.out⟩
end Go.Proofs.YtjliagcalbdnhaaGreatDoor

namespace Go.Proofs.YtjliagcalbdnhaaGreatDoor
open Go.RowKit

set_option maxRecDepth 10000 in
set_option maxHeartbeats 1000000 in
theorem clone14 (t : List Ent) (a : Option Addr) (cap : Nat) (w : World) (h : Ents w a cap t) (hl : t.length ≤ 1000) :
    Calls Tryz.prog 84 #[.slice a t.length cap] w fun e w' => ∃ v, e = .returned v ∧ OwnE w' w.heap.size v t ∧ Below w.heap.size w w' := by
  have HE := Lib.hid h
  have HL := Lib.hid (show ([] : List Ent).length + t.length ≤ 10000 by simp; omega)
  have hnil := fun w => Lib.run_eql_slice_nil (P := Tryz.prog) w 27 46 a t.length cap 0 0 Tryz.underlying27
  cases a with
  | none =>
    have h0 : t = [] := by
      rcases h.2 with h | ⟨b, off, h9, _⟩
      · exact h
      · cases h9
    subst h0
    have hnil := fun w => Lib.run_eql_slice_nil (P := Tryz.prog) w 27 46 none 0 cap 0 0 Tryz.underlying27
    simp only [Option.isNone_none] at hnil
    show Calls _ _ #[.slice none 0 cap] w _
    clear h hl
    go_enter Tryz.func84, Tryz.ntmps84
    go_wp2
    go_ret
    exact ⟨_, rfl, ownE_nil _ _, Below.refl _ _⟩
  | some ad =>
    simp only [Option.isNone_some] at hnil
    clear h hl
    go_enter Tryz.func84, Tryz.ntmps84
    go_wp2_with (at_builtin; refine Stopped.go ?_)
    unfold Stopped
    have hb0 : Below w.heap.size w (w.alloc (.cells #[] 46)) := (Below.refl _ _).alloc (Nat.le_refl _) _
    refine wl_catE (by rfl) _ _ (by rfl) w.heap.size _ [] t (by rfl) (ownsE_new w w.heap.size w.heap.size rfl (Nat.le_refl _) 46 3) hb0.size (some ad) cap (by rfl) (RowN.below HE.out hb0) HL.out ?_
    intro v w1 ho hg
    have HB := Lib.hid (hb0.grown hg hb0.size (fun k hk => by
      obtain rfl : w.heap.size = k := by simpa [Value.ownBlock] using hk
      exact Nat.le_refl _))
    have HO := Lib.hid (show OwnE w1 w.heap.size v t from ho)
    clear ho hg hb0
    go_wp2
    go_ret
    exact ⟨_, rfl, HO.out, HB.out⟩
/-- What goes with a path. -/
def go14 (p : ByteArray) (x : Ent) : Bool := decide (pl x = p.data.toList) || und (pl x) p.data.toList
theorem filter_go14 (l : List Ent) (p : ByteArray) : l.filter (fun x => !go14 p x) = rst l p.data.toList := by
  unfold rst go14
  refine List.filter_congr fun x _ => ?_
  cases und (pl x) p.data.toList <;> by_cases h : pl x = p.data.toList <;> simp [h]
set_option maxRecDepth 10000 in
set_option maxHeartbeats 1000000 in
theorem goes14 (x : Ent) (p : ByteArray) (bp : Nat) (W : World) (cp : W.cell? ⟨bp, 0, none⟩ = some (.string p)) (hx : x.1.size ≤ 100000) (hp : p.size ≤ 100000) :
    Calls Tryz.prog 103 (#[enV x] ++ #[.pointer (some ⟨bp, 0, none⟩)]) W fun e w' => e = .returned (.bool (go14 p x)) ∧ Below W.heap.size W w' := by
  have HC := Lib.hid (fun W' => under_any x.1 p (by omega) (by omega) W')
  have hb0 : Below W.heap.size W (W.alloc (.cells #[.string x.1, .int .i64 x.2.1, .string x.2.2] 46)) := (Below.refl _ _).alloc (Nat.le_refl _) _
  have HB0 := Lib.hid hb0
  obtain ⟨r, hr⟩ : ∃ r, und (pl x) p.data.toList = r := ⟨_, rfl⟩
  rw [show und x.1.data.toList p.data.toList = r from hr] at HC
  have cp1 : (W.alloc (.cells #[.string x.1, .int .i64 x.2.1, .string x.2.2] 46)).cell? ⟨bp, 0, none⟩ = some (.string p) := by
    by_cases hlt : bp < W.heap.size
    · exact (hb0.cell (p := ⟨bp, 0, none⟩) hlt).trans cp
    · exfalso
      have : W.heap[bp]? = none := Array.getElem?_eq_none (by omega)
      simp [World.cell?, this] at cp
  by_cases hq : pl x = p.data.toList
  · have gp : (x.1.toList == p.toList) = true := by rw [Lib.toList_data, Lib.toList_data, beq_iff_eq]; exact hq
    have HV := Lib.hid (show go14 p x = true by unfold go14; rw [decide_eq_true hq, Bool.true_or])
    clear hb0 hr hx hp hq HC
    go_enter Tryz.func103, Tryz.ntmps103
    go_wp2
    go_ret
    exact ⟨by rw [HV.out]; rfl, HB0.out⟩
  · have gp : (x.1.toList == p.toList) = false := by rw [Lib.toList_data, Lib.toList_data, beq_eq_false_iff_ne]; exact hq
    have HV := Lib.hid (show go14 p x = r by unfold go14; rw [decide_eq_false hq, Bool.false_or, hr])
    clear hb0 hr hx hp hq
    go_enter Tryz.func103, Tryz.ntmps103
    go_wp2_with fail
    refine (HC.out _).mono ?_
    rintro e w1 ⟨rfl, hb⟩
    have HB := Lib.hid (HB0.out.trans (hb.mono HB0.out.size))
    clear hb
    go_wp2
    go_ret
    exact ⟨by rw [HV.out]; rfl, HB.out⟩
/-- None of them goes. -/
def none14 (p : ByteArray) (l : List Ent) : Prop := ∀ x ∈ l, go14 p x = false
set_option maxRecDepth 10000 in
set_option maxHeartbeats 1000000 in
theorem index14 (t : List Ent) (a : Option Addr) (cap : Nat) (p : ByteArray) (bp : Nat) (w : World) (h : Ents w a cap t) (hs : Sm t) (hl : bp < w.heap.size) (cp : w.cell? ⟨bp, 0, none⟩ = some (.string p)) (hp : p.size ≤ 100000) :
    Calls Tryz.prog 148 #[.slice a t.length cap, .func (.func 103) #[] #[.pointer (some ⟨bp, 0, none⟩)]] w fun e w' => ∃ i : Int, e = .returned (.int .i64 i) ∧ Below w.heap.size w w' ∧ ((i = -1 ∧ none14 p t) ∨ ∃ (k : Nat) (x : Ent), i = (k : Int) ∧ t[k]? = some x ∧ go14 p x = true ∧ none14 p (t.take k)) := by
  have HE := Lib.hid h
  have hlen := hs.1
  have HC : Hid (∀ x ∈ t, ∀ W, Below w.heap.size w W → _) := fun x hx W hW => goes14 x p bp W ((hW.cell (p := ⟨bp, 0, none⟩) hl).trans cp) (hs.2 x hx).1 hp
  clear h hs hl cp hp
  go_enter Tryz.func148, Tryz.ntmps148
  go_wp2
  go_loopg [8] t.length (fun g i wx => ∃ k : Nat, i = .int .i64 (k : Int) ∧ k + g = t.length ∧ Hid (Below w.heap.size w wx) ∧ Hid (none14 p (t.take k)))
  case atStart => exact ⟨0, rfl, by omega, Below.refl _ _, by rw [List.take_zero]; intro y hy; cases hy⟩
  case round =>
    obtain ⟨k, rfl, hk, HB, HN⟩ := hrel
    have hw : IntKind.i64.wrap ((k : Int) + 1) = (k : Int) + 1 := IntWalk.i64_in _ (by omega)
    by_cases hlt : k < t.length
    · have hlt' : (k : Int) < (t.length : Int) := by omega
      obtain ⟨b, off, rfl, _, hc⟩ := Ents.at HE.out HB.out hlt
      have HCX := Lib.hid (HC.out t[k] (List.getElem_mem hlt) wr HB.out)
      have HT := Lib.hid (take_get t k hlt)
      have HX := Lib.hid (List.getElem?_eq_getElem hlt)
      obtain ⟨x, hx⟩ : ∃ x, t[k] = x := ⟨_, rfl⟩
      rw [hx] at hc HCX HT HX
      have c0 := hc.c0
      have c1 := hc.c1
      have c2 := hc.c2
      clear hc hx
      cases hu : go14 p x with
      | true =>
        rw [hu] at HCX
        have HV := Lib.hid hu
        clear hu
        go_wp2_with fail
        refine (HCX.out).mono ?_
        rintro e w1 ⟨rfl, hb⟩
        have HB1 := Lib.hid (HB.out.trans (hb.mono HB.out.size))
        clear hb
        go_wp2
        go_ret
        exact ⟨_, rfl, HB1.out, .inr ⟨k, x, rfl, HX.out, HV.out, HN.out⟩⟩
      | false =>
        rw [hu] at HCX
        have HN1 := Lib.hid (show none14 p (t.take (k + 1)) by
          rw [HT.out]
          intro y hy
          rcases List.mem_append.1 hy with hy | hy
          · exact HN.out y hy
          · rw [List.mem_singleton.1 hy]; exact hu)
        clear hu
        go_wp2_with fail
        refine (HCX.out).mono ?_
        rintro e w1 ⟨rfl, hb⟩
        have HB1 := Lib.hid (HB.out.trans (hb.mono HB.out.size))
        clear hb
        go_wp2
        go_roundg (gk - 1)
        case measure => omega
        case rel => exact ⟨k + 1, by simp, by omega, HB1.out, HN1.out⟩
    · have hlt' : ¬ (k : Int) < (t.length : Int) := by omega
      have HV := Lib.hid (show none14 p t by
        have := HN.out
        rwa [List.take_of_length_le (by omega)] at this)
      go_wp2
      go_ret
      exact ⟨_, rfl, HB.out, .inl ⟨rfl, HV.out⟩⟩
/-- A row under the work of DeleteFunc: what is kept of the first j stands first. -/
structure Part14 (p : ByteArray) (l M : List Ent) (i j : Nat) : Prop where
  len : M.length = l.length
  lt : i < j
  kept : M.take i = (l.take j).filter (fun x => !go14 p x)
  rest : M.drop j = l.drop j
theorem none_filter14 {p : ByteArray} {l : List Ent} (h : none14 p l) : l.filter (fun x => !go14 p x) = l := List.filter_eq_self.2 fun x hx => by simp [h x hx]
theorem Part14.keep {p : ByteArray} {l M : List Ent} {i j : Nat} {x : Ent} (h : Part14 p l M i j) (hx : l[j]? = some x) (hp : go14 p x = false) : Part14 p l (M.set i x) (i + 1) (j + 1) := by
  have hj : j < l.length := (List.getElem?_eq_some_iff.1 hx).1
  have hi : i < M.length := by have := h.lt; have := h.len; omega
  have htk : l.take (j + 1) = l.take j ++ [x] := by rw [List.take_add_one, hx]; rfl
  refine ⟨by simpa using h.len, by have := h.lt; omega, ?_, ?_⟩
  · rw [htk, List.filter_append, ← h.kept, List.take_add_one, List.getElem?_set_self hi, List.take_set_of_le (Nat.le_refl _)]
    simp [hp]
  · rw [List.drop_set_of_lt (by have := h.lt; omega), ← List.drop_drop, ← List.drop_drop, h.rest]
theorem Part14.skip {p : ByteArray} {l M : List Ent} {i j : Nat} {x : Ent} (h : Part14 p l M i j) (hx : l[j]? = some x) (hp : go14 p x = true) : Part14 p l M i (j + 1) := by
  have htk : l.take (j + 1) = l.take j ++ [x] := by rw [List.take_add_one, hx]; rfl
  refine ⟨h.len, by have := h.lt; omega, ?_, ?_⟩
  · rw [htk, List.filter_append, ← h.kept]
    simp [hp]
  · rw [← List.drop_drop, ← List.drop_drop, h.rest]
theorem Part14.get {p : ByteArray} {l M : List Ent} {i j : Nat} (h : Part14 p l M i j) : M[j]? = l[j]? := by
  have := congrArg (·[0]?) h.rest
  simpa using this
theorem enc_len14 (l : List Ent) : ∀ x ∈ l, (enc x).length = 3 := fun _ _ => rfl
theorem zero_en14 (w : World) : (zeroValue 46).run Tryz.prog w = .ok (entV ⟨#[]⟩ 0 ⟨#[]⟩) w := by kernel_rfl
/-- The cells of an owned row's j-th entry. -/
theorem own_cell14 {w : World} {B g n cap : Nat} {M : List Ent} (h : w.ownsRow B 46 3 (.slice (some ⟨g, 0, none⟩) n cap) n (M.flatMap enc)) {j : Nat} {x : Ent} (hx : M[j]? = some x) (hj : j < n) {i : Nat} {u : Value} (hi : (enc x)[i]? = some u) : w.cell? ⟨g, j * 3 + i, none⟩ = some u ∧ w.frozen? ⟨g, j * 3 + i, none⟩ = false := by
  have hi3 : i < 3 := (List.getElem?_eq_some_iff.1 hi).1
  obtain ⟨_, ⟨h9, _⟩ | ⟨g', cap', cur, h9, _, hbk, _, _, _, ht⟩⟩ := h
  · cases h9
  · cases h9
    have h1 := flat_get M j i hi3
    rw [hx, Option.bind_some, hi, ← ht, List.getElem?_take_of_lt (by omega), Array.getElem?_toList] at h1
    exact cell_of8 hbk h1
theorem own_lt14 {w : World} {B g n cap : Nat} {xs : List Value} {t : TypeId} {C : Nat} (h : w.ownsRow B t C (.slice (some ⟨g, 0, none⟩) n cap) n xs) : B ≤ g ∧ g < w.heap.size ∧ n ≤ cap := by
  obtain ⟨_, ⟨h9, _⟩ | ⟨g', cap', cur, h9, hg, hbk, hc, _⟩⟩ := h
  · cases h9
  · cases h9
    exact ⟨hg, (Array.getElem?_eq_some_iff.1 hbk).1, hc⟩
theorem own_below14 {w w' : World} {B g n cap : Nat} {xs : List Value} {t : TypeId} {C : Nat} (h : w.ownsRow B t C (.slice (some ⟨g, 0, none⟩) n cap) n xs) (hb : w'.heap[g]? = w.heap[g]?) : w'.ownsRow B t C (.slice (some ⟨g, 0, none⟩) n cap) n xs := by
  obtain ⟨h1, ⟨h9, _⟩ | ⟨g', cap', cur, h9, hg, hbk, hc⟩⟩ := h
  · cases h9
  · cases h9
    exact ⟨h1, .inr ⟨g, cap, cur, rfl, hg, hb.trans hbk, hc⟩⟩
theorem below_cells14 {B : Nat} {w0 : World} : ∀ (vs : List Value) (w : World) (g o : Nat), Below B w0 w → B ≤ g → Below B w0 (w.setCells g o vs)
  | [], _, _, _, h, _ => h
  | v :: r, w, g, o, h, hg => by
    rw [World.setCells]
    exact below_cells14 r _ g (o + 1) (h.setCell (p := ⟨g, o, none⟩) hg v) hg
set_option maxRecDepth 10000 in
set_option maxHeartbeats 2000000 in
theorem del14 (l : List Ent) (v : Value) (B : Nat) (p : ByteArray) (bp : Nat) (w : World) (h : OwnE w B v l) (hB : B ≤ w.heap.size) (hs : Sm l) (hbp : bp < B) (cp : w.cell? ⟨bp, 0, none⟩ = some (.string p)) (hp : p.size ≤ 100000) :
    Calls Tryz.prog 104 #[v, .func (.func 103) #[] #[.pointer (some ⟨bp, 0, none⟩)]] w fun e w' => ∃ a cap, e = .returned (.slice a (rst l p.data.toList).length cap) ∧ Ents w' a cap (rst l p.data.toList) ∧ Below B w w' := by
  obtain ⟨a, cap, rfl, hE⟩ := ents_of_own h
  have HI := Lib.hid (index14 l a cap p bp w hE hs (by omega) cp hp)
  have HO := Lib.hid h
  have HE := Lib.hid hE
  have HBS := Lib.hid hB
  have HL := Lib.hid hs.1
  have HG : Hid (∀ x ∈ l, ∀ W, Below B w W → Calls Tryz.prog 103 (#[enV x] ++ #[.pointer (some ⟨bp, 0, none⟩)]) W fun e w' => e = .returned (.bool (go14 p x)) ∧ Below W.heap.size W w') := fun x hx W hW => goes14 x p bp W ((hW.cell (p := ⟨bp, 0, none⟩) hbp).trans cp) (hs.2 x hx).1 hp
  obtain ⟨R, hR⟩ : ∃ R, rst l p.data.toList = R := ⟨_, rfl⟩
  rw [hR]
  have HR := Lib.hid ((filter_go14 l p).trans hR)
  clear h hE hs hbp cp hp hB hR
  go_enter Tryz.func104, Tryz.ntmps104
  go_wp2_with fail
  refine HI.out.mono ?_
  rintro e w1 ⟨r, rfl, hb1, hr⟩
  have HB1 := Lib.hid (hb1.mono HBS.out)
  have HBW := Lib.hid hb1
  have HRR := Lib.hid hr
  clear hb1 hr HI
  rcases HRR.out with ⟨rfl, hno⟩ | ⟨k, x0, rfl, hx0, hp0, hno⟩
  · clear HRR
    have HNO := Lib.hid ((none_filter14 hno).symm.trans HR.out)
    clear hno
    go_wp2
    go_ret
    exact ⟨a, cap, by rw [← HNO.out]; rfl, by rw [← HNO.out]; exact RowN.below HE.out HBW.out, HB1.out⟩
  · clear HRR
    obtain ⟨n, hn⟩ : ∃ n, l.length = n := ⟨_, rfl⟩
    rw [hn] at HL
    have hk : k < n := by have := (List.getElem?_eq_some_iff.1 hx0).1; omega
    have hk1 : ((k : Int) == -1) = false := by simp
    have hw1 : IntKind.i64.wrap ((k : Int) + 1) = (k : Int) + 1 := IntWalk.i64_in _ (by have := HL.out; omega)
    have HP0 : Hid (Part14 p l l k (k + 1)) := by
      refine ⟨rfl, by omega, ?_, rfl⟩
      rw [List.take_add_one, hx0, List.filter_append, none_filter14 hno]
      simp [hp0]
    obtain ⟨g, rfl⟩ : ∃ g, a = some ⟨g, 0, none⟩ := by
      obtain ⟨_, ⟨h9, h0⟩ | ⟨g, cap', cur, h9, _⟩⟩ := HO.out
      · omega
      · cases h9
        exact ⟨g, rfl⟩
    rw [hn]
    have HOW := Lib.hid (show w1.ownsRow B 46 3 (.slice (some ⟨g, 0, none⟩) n cap) n (l.flatMap enc) by
      have h9 := HO.out
      unfold OwnE at h9
      rw [hn] at h9
      exact own_below14 h9 (HBW.out.block g (own_lt14 h9).2.1))
    have HGB := Lib.hid (own_lt14 HOW.out)
    have HN := Lib.hid hn
    clear hx0 hp0 hno hn HO HE
    go_wp2
    go_loopg [5, 6, 7] (n - (k + 1)) (fun gg v5 v6 _ wx => ∃ (i j : Nat) (M : List Ent), v5 = .int .i64 (i : Int) ∧ v6 = .int .i64 (j : Int) ∧ j + gg = n ∧ Hid (Part14 p l M i j) ∧ Hid (Below B w wx) ∧ Hid (wx.ownsRow B 46 3 (.slice (some ⟨g, 0, none⟩) n cap) n (M.flatMap enc)))
    case atStart => exact ⟨k, k + 1, l, rfl, rfl, by omega, HP0, HB1.out, HOW.out⟩
    case round =>
      clear HP0 hk hk1 hw1 HOW
      obtain ⟨i, j, M, rfl, rfl, hj, HP, HF, HW⟩ := hrel
      by_cases hlt : j < n
      · have hlt' : (j : Int) < (n : Int) := by omega
        have hij := HP.out.lt
        have hin : (i : Int) < (n : Int) := by omega
        have hnc : (n : Int) ≤ (cap : Int) := by have := HGB.out.2.2; omega
        have hw1 : IntKind.i64.wrap ((j : Int) + 1) = (j : Int) + 1 := IntWalk.i64_in _ (by have := HL.out; omega)
        have hw2 : IntKind.i64.wrap ((i : Int) + 1) = (i : Int) + 1 := IntWalk.i64_in _ (by have := HL.out; omega)
        obtain ⟨x, hx⟩ : ∃ x, l[j]? = some x := ⟨_, List.getElem?_eq_getElem (by have := HN.out; omega)⟩
        obtain ⟨y, hy⟩ : ∃ y, M[i]? = some y := ⟨_, List.getElem?_eq_getElem (by have := HN.out; have := HP.out.len; omega)⟩
        have hMj := HP.out.get.trans hx
        have c0 := (own_cell14 HW.out hMj hlt (i := 0) rfl).1
        have c1 := (own_cell14 HW.out hMj hlt (i := 1) rfl).1
        have c2 := (own_cell14 HW.out hMj hlt (i := 2) rfl).1
        rw [Nat.add_zero] at c0
        obtain ⟨W, hW⟩ : ∃ W, wr.alloc (.cells #[.string x.1, .int .i64 x.2.1, .string x.2.2] 46) = W := ⟨_, rfl⟩
        obtain ⟨N, hN⟩ : ∃ N, wr.heap.size = N := ⟨_, rfl⟩
        have hbw : Below wr.heap.size wr W := by rw [← hW]; exact (Below.refl _ _).alloc (Nat.le_refl _) _
        have HBX := Lib.hid (HF.out.trans (hbw.mono (Nat.le_trans HBS.out HF.out.size)))
        have HQ := Lib.hid (show EnAt W N x.1 x.2.1 x.2.2 by rw [← hW, ← hN]; exact enAt_new _ _ _ _)
        have HWW := Lib.hid (own_below14 HW.out (hbw.block g (own_lt14 HW.out).2.1))
        have HX := Lib.hid hx
        have HY := Lib.hid hy
        have HC := Lib.hid (HG.out x (List.mem_of_getElem? hx) W HBX.out)
        have q0 := HQ.out.c0
        have q1 := HQ.out.c1
        have q2 := HQ.out.c2
        clear hx hy hMj hbw hij
        cases hu : go14 p x with
        | false =>
          rw [hu] at HC
          have HPX := Lib.hid hu
          clear hu
          go_wp2_with fail
          refine HC.out.mono ?_
          rintro e w2 ⟨rfl, hb2⟩
          have HB2 := Lib.hid (HBX.out.trans (hb2.mono (Nat.le_trans HBS.out HBX.out.size)))
          have HQ2 := Lib.hid (HQ.out.below hb2)
          have HW2 := Lib.hid (own_below14 HWW.out (hb2.block g (own_lt14 HWW.out).2.1))
          clear q0 q1 q2 c0 c1 c2 hb2 HC
          have q0 := HQ2.out.c0
          have q1 := HQ2.out.c1
          have q2 := HQ2.out.c2
          have hi9 : i < n := by omega
          have d0 := (own_cell14 HW2.out HY.out hi9 (i := 0) rfl).1
          have d1 := (own_cell14 HW2.out HY.out hi9 (i := 1) rfl).1
          have d2 := (own_cell14 HW2.out HY.out hi9 (i := 2) rfl).1
          have f0 := (own_cell14 HW2.out HY.out hi9 (i := 0) rfl).2
          have f1 := (own_cell14 HW2.out HY.out hi9 (i := 1) rfl).2
          have f2 := (own_cell14 HW2.out HY.out hi9 (i := 2) rfl).2
          rw [Nat.add_zero] at d0 f0
          go_wp2
          go_roundg (gk - 1)
          case measure => omega
          case rel =>
            refine ⟨i + 1, j + 1, M.set i x, by simp, by simp, by omega, HP.out.keep HX.out HPX.out, ?_, ?_⟩
            · exact below_cells14 (enc x) w2 g (i * 3) HB2.out HGB.out.1
            · rw [flat_set M (enc_len14 M) i x (by have := HP.out.len; have := HN.out; omega) rfl]
              exact owns_put HW2.out (i * 3) (enc x) (by show i * 3 + 3 ≤ n * 3; omega)
        | true =>
          rw [hu] at HC
          have HPX := Lib.hid hu
          clear hu
          go_wp2_with fail
          refine HC.out.mono ?_
          rintro e w2 ⟨rfl, hb2⟩
          have HB2 := Lib.hid (HBX.out.trans (hb2.mono (Nat.le_trans HBS.out HBX.out.size)))
          have HW2 := Lib.hid (own_below14 HWW.out (hb2.block g (own_lt14 HWW.out).2.1))
          clear q0 q1 q2 c0 c1 c2 hb2 HC
          go_wp2
          go_roundg (gk - 1)
          case measure => omega
          case rel => exact ⟨i, j + 1, M, rfl, by simp, by omega, HP.out.skip HX.out HPX.out, HB2.out, HW2.out⟩
      · have hlt' : ¬ (j : Int) < (n : Int) := by omega
        have hij := HP.out.lt
        have hlen : M.take i = R := by
          rw [HP.out.kept, List.take_of_length_le (by have := HN.out; omega), HR.out]
        have hil : i < n := by omega
        have hin : (i : Int) ≤ (n : Int) := by omega
        have hic : (i : Int) ≤ (cap : Int) := by have := HGB.out.2.2; omega
        have hic2 : ¬ cap = i := by have := HGB.out.2.2; omega
        have hth : wr.there g (i * 3) ((n - i) * 3) := owns_there HW.out (by
          have := HGB.out.2.2
          omega)
        obtain ⟨vs, hvl, hrun⟩ := run_clear_any (P := Tryz.prog) wr 27 46 (entV ⟨#[]⟩ 0 ⟨#[]⟩) 3 Tryz.underlying27 zero_en14 rfl (by decide) (by simp [Value.cells, Value.oneCell']) g (i * 3) (n - i) (cap - i) hth
        have HLN := Lib.hid hlen
        have HIL := Lib.hid hil
        clear hth hvl hlen hil
        go_wp2
        go_ret
        have hli : R.length = i := by
          rw [← HLN.out, List.length_take]
          have := HP.out.len
          have := HN.out
          have := HIL.out
          omega
        have ho := owns_cut HW.out (Nat.le_of_lt HIL.out) vs
        rw [← flat_take M (C := 3) (enc_len14 M), HLN.out] at ho
        have ho' : OwnE (wr.setCells g (i * 3) vs) B (.slice (some ⟨g, 0, none⟩) R.length cap) R := by
          show (wr.setCells g (i * 3) vs).ownsRow B _ 3 (.slice (some ⟨g, 0, none⟩) R.length cap) R.length (R.flatMap enc)
          rw [hli]
          exact ho
        obtain ⟨a9, c9, e9, h9⟩ := ents_of_own ho'
        cases e9
        exact ⟨_, _, by rw [hli]; rfl, h9, below_cells14 vs wr g (i * 3) HF.out HGB.out.1⟩
end Go.Proofs.YtjliagcalbdnhaaGreatDoor

namespace Go.Proofs.YtjliagcalbdnhaaGreatDoor
open Go.RowKit

theorem shows14 {T : List (List Ent)} (hT : OK14 T) {p : List UInt8} (hp : isP p) (hr : p ≠ [47]) : decide ((lkV T p).1 = 0) = (fnd (stk T) p).isSome := by
  rw [lkV_ok hT, (look_all hT.2 p hp).1]
  cases hf : fnd (stk T) p with
  | none =>
    refine decide_eq_false fun h => ?_
    have := atV_some hp hr h
    rw [hf] at this
    cases this
  | some e =>
    obtain ⟨h1, h2⟩ := (fnd_some (tr_stk hT.2).1.2.1).1 hf
    rw [atV_mem (tr_stk hT.2) p hp e h1 h2]
    rfl
set_option maxRecDepth 10000 in
set_option maxHeartbeats 8000000 in
theorem removed14 (S : List (List Ent)) (u : List Ent) (a a2 : Option Addr) (cap cap2 : Nat) (p : ByteArray) (w : World) (hg : EtLaid w) (h : Stk w a cap S) (hu : Ents w a2 cap2 u) (hok : OK14 (S ++ [u])) (hp : isP p.data.toList) (hr : p.data.toList ≠ [47]) (hin : pin14 (over (stk S) u) p.data.toList) :
    Calls Tryz.prog 61 #[.slice a S.length cap, .slice a2 u.length cap2, .string p] w (Ans11 (ans14 (rem14 (stk S) u p)) w) := by
  obtain ⟨hT, hU, _, _⟩ := ok_low hok
  obtain ⟨hR, hGd⟩ := rem_parts hT hU hp hr hin
  have h54 := isP_len hp
  rw [← Lib.size_eq] at h54
  have hokR : OK14 (S ++ [rst u p.data.toList]) := ok_put hok hR
  obtain ⟨sm1, sm2⟩ := ok_sm hokR
  have hlen : S.length ≤ 100 := by have := hok.1; simp at this; omega
  have hsh := shows14 hokR hp hr
  rw [stk_snoc] at hsh
  have HSH0 := Lib.hid (fun (X : World) a' cap' (hX : EtLaid X) (hk : Stk X a' cap' (S ++ [rst u p.data.toList])) => shows12 (S ++ [rst u p.data.toList]) a' cap' p X hX hk sm1 sm2 (by omega))
  rw [hsh] at HSH0
  obtain ⟨R, hRR⟩ : ∃ R, rst u p.data.toList = R := ⟨_, rfl⟩
  obtain ⟨b, hb⟩ : ∃ b, (fnd (over (stk S) (rst u p.data.toList)) p.data.toList).isSome = b := ⟨_, rfl⟩
  have HV := Lib.hid (show rem14 (stk S) u p = if b = true then lay14 R (wE p) else R by unfold rem14; rw [hb, hRR])
  rw [hb] at HSH0
  obtain ⟨v, hv⟩ : ∃ v, ans14 (rem14 (stk S) u p) = v := ⟨_, rfl⟩
  have HVV := Lib.hid hv
  rw [hv]
  rw [hRR] at HSH0 hGd hR
  obtain ⟨m, hm⟩ : ∃ m, (S ++ [R]).length = m := ⟨_, rfl⟩
  have HM := Lib.hid hm
  rw [hm] at HSH0
  have HLD : Hid (∀ (a' : Option Addr) (cap' : Nat) (X : World), Ents X a' cap' R → Calls Tryz.prog 59 #[.slice a' R.length cap', .agg #[.string p, .int .i64 3, .string ⟨#[]⟩]] X (Ans11 (ans14 (lay14 R (wE p))) X)) := fun a' cap' X hX => laid14 p.data.toList hp R (wE p) a' cap' X rfl hX hGd
  have HR64 := Lib.hid hR.1
  obtain ⟨W, hW⟩ : ∃ W, w.alloc (.cells #[.string p] 9) = W := ⟨_, rfl⟩
  obtain ⟨N, hN⟩ : ∃ N, w.heap.size = N := ⟨_, rfl⟩
  have hb0 : Below w.heap.size w W := by rw [← hW]; exact (Below.refl _ _).alloc (Nat.le_refl _) _
  have hcell : W.cell? ⟨N, 0, none⟩ = some (.string p) := by rw [← hW, ← hN]; exact (cell_of8 (heap_alloc_new _ _) rfl).1
  have hlt : N < W.heap.size := World.block_lt_of_cell? W _ hcell
  have HG := Lib.hid (hg.below hg.lt hb0)
  have HK := Lib.hid (h.below hb0)
  have HB0 := Lib.hid hb0
  have HC := Lib.hid hcell
  have HLT := Lib.hid hlt
  have HCL := Lib.hid (clone14 u a2 cap2 W (RowN.below hu hb0) (by have := hU.1; omega))
  have HSU := Lib.hid (sm_right14 hU)
  have HPZ := Lib.hid (show p.size ≤ 100000 by omega)
  have HRR := Lib.hid hRR
  have HSL := Lib.hid hlen
  have hmf : ∀ (fn : Fn) (first cap : Array Value) (w : World), (Instr.makeFunc fn first cap).run Tryz.prog w = .ok (.func fn first cap) w := fun _ _ _ _ => rfl
  clear hg h hu hok hp hr hin hT hU hR hGd h54 hokR sm1 sm2 hlen hsh hv hb hm hb0 hcell hlt hRR
  go_enter Tryz.func61, Tryz.ntmps61
  go_wp2_with fail
  refine (HCL.out).mono ?_
  rintro e w1 ⟨v1, rfl, ho, hb1⟩
  have HO := Lib.hid ho
  have HB1 := Lib.hid hb1
  clear ho hb1
  go_wp2_with fail
  refine (del14 u v1 W.heap.size p N w1 HO.out HB1.out.size HSU.out HLT.out ((HB1.out.cell (p := ⟨N, 0, none⟩) HLT.out).trans HC.out) HPZ.out).mono ?_
  rw [HRR.out]
  rintro e w2 ⟨a3, cap3, rfl, hE, hb2⟩
  have HB2 := Lib.hid (HB1.out.trans hb2)
  have HE := Lib.hid hE
  have HK2 := Lib.hid (HK.out.below HB2.out)
  have HG2 := Lib.hid (HG.out.below HG.out.lt HB2.out)
  have c0 : w2.cell? ⟨N, 0, none⟩ = some (.string p) := (HB2.out.cell (p := ⟨N, 0, none⟩) HLT.out).trans HC.out
  have HLT2 := Lib.hid (World.block_lt_of_cell? w2 _ c0)
  have HKS : Hid (∀ X, Below w2.heap.size w2 X → X.cell? ⟨N, 0, none⟩ = some (.string p)) := fun X hX => (hX.cell (p := ⟨N, 0, none⟩) HLT2.out).trans ((HB2.out.cell (p := ⟨N, 0, none⟩) HLT.out).trans HC.out)
  have HOV : Hid (∀ X, Below w2.heap.size w2 X → Calls Tryz.prog 30 #[.slice a S.length cap, .slice a3 R.length cap3] X fun e w' => ∃ a' cap', e = .returned (.slice a' m cap') ∧ Stk w' a' cap' (S ++ [R]) ∧ Below w2.heap.size w2 w') := fun X hX => by
    have := over14 S R a a3 cap cap3 X (HK2.out.below hX) (RowN.below HE.out hX) HSL.out
    rw [HM.out] at this
    refine this.mono ?_
    rintro e w' ⟨a', cap', rfl, hk, hb⟩
    exact ⟨a', cap', rfl, hk, hX.trans (hb.mono hX.size)⟩
  have HSW : Hid (∀ X a' cap', Stk X a' cap' (S ++ [R]) → Below w2.heap.size w2 X → Calls Tryz.prog 31 #[.slice a' m cap', .string p] X fun e w' => e = .returned (.bool b) ∧ Below w2.heap.size w2 w') := fun X a' cap' hk hX => by
    refine (HSH0.out X a' cap' (HG2.out.below HG2.out.lt hX) hk).mono ?_
    rintro e w' ⟨rfl, hb⟩
    exact ⟨rfl, hX.trans (hb.mono hX.size)⟩
  clear hE hb2
  go_wp2_with fail
  go_region_held3 (fun X => X.cell? ⟨N, 0, none⟩ = some (.string p))
    ((with_reducible refine HKS.out _ ?_; (first | with_reducible assumption | with_reducible exact Below.refl _ _ | with_reducible exact (Below.refl _ _).drew | (with_reducible refine Below.drew ?_; with_reducible assumption))))
    (first
      | (go_at_call 30; with_reducible refine (HOV.out _ ?_).mono ?_; (focus ((first | with_reducible assumption | with_reducible exact Below.refl _ _ | with_reducible exact (Below.refl _ _).drew | (with_reducible refine Below.drew ?_; with_reducible assumption)))); rintro e w3 ⟨a4, cap4, rfl, hk4, hB4⟩; have hk5 := hk4.below ((Below.refl _ _).drew))
      | (go_at_call 31; with_reducible refine (HSW.out _ _ _ ?_ ?_).mono ?_; (focus (with_reducible assumption)); (focus ((first | with_reducible assumption | (with_reducible refine Below.drew ?_; with_reducible assumption)))); rintro e w5 ⟨rfl, hB5⟩))
  all_goals
    have HE5 := Lib.hid (RowN.below HE.out hB5)
    have HB5 := Lib.hid (HB0.out.trans ((HB2.out.trans (hB5.mono HB2.out.size)).mono HB0.out.size))
    have c9 := HKS.out w5 hB5
    clear hk4 hB4 hB5 hk5 c0
    cases b with
    | false =>
      have HX := Lib.hid (show v = (0, R) by rw [← HVV.out, HV.out]; exact if_neg (by have := HR64.out; simp; omega))
      clear c9
      go_wp2
      go_ret2
      exact ⟨a3, cap3, .nilIface, by rw [HX.out]; rfl, by rw [HX.out]; exact HE5.out, by rw [HX.out]; exact er_nil _, by first | exact HB5.out | (rw [hN]; exact HB5.out) | (rw [← hN]; exact HB5.out)⟩
    | true =>
      have HX := Lib.hid (show ans14 (lay14 R (wE p)) = v by rw [← HVV.out, HV.out]; rfl)
      have HLL := Lib.hid (HLD.out a3 cap3 w5 HE5.out)
      go_wp2_with fail
      refine (HLL.out).mono ?_
      rw [HX.out]
      rintro r w6 ⟨a6, cap6, er6, rfl, h6, her6, hb6⟩
      have HB6 := Lib.hid (HB5.out.trans (hb6.mono HB5.out.size))
      have H6 := Lib.hid h6
      have HER := Lib.hid her6
      clear h6 her6 hb6 c9
      go_wp2
      go_ret2
      exact ⟨a6, cap6, er6, rfl, H6.out, HER.out, by first | exact HB6.out | (rw [hN]; exact HB6.out) | (rw [← hN]; exact HB6.out)⟩
end Go.Proofs.YtjliagcalbdnhaaGreatDoor

namespace Go.Proofs.YtjliagcalbdnhaaGreatDoor
open Go.RowKit

abbrev dv14 (k : Nat) : Value := .agg #[.func (.func k) #[] #[]]
/-- What stands in the map. -/
def deedF : Int → Option Value := fun i => if i = 6 then some (dv14 74) else if i = 5 then some (dv14 72) else if i = 4 then some (dv14 70) else if i = 3 then some (dv14 68) else if i = 2 then some (dv14 67) else if i = 1 then some (dv14 65) else if i = 0 then some (dv14 63) else none
theorem deedF_is (i : Int) : (deedF i).isSome = decide (0 ≤ i ∧ i ≤ 6) := by
  unfold deedF
  split
  · rename_i h; subst h; rfl
  split
  · rename_i h; subst h; rfl
  split
  · rename_i h; subst h; rfl
  split
  · rename_i h; subst h; rfl
  split
  · rename_i h; subst h; rfl
  split
  · rename_i h; subst h; rfl
  split
  · rename_i h; subst h; rfl
  · exact (decide_eq_false (by omega)).symm
theorem deeds14 (w : World) : Calls Tryz.prog 35 #[] w fun e w' => ∃ b, e = .returned (.map (some b)) ∧ w.heap.size ≤ b ∧ MapOf Tryz.prog 3 w' b 7 deedF ∧ Below w.heap.size w w' := by
  have hmm := @run_makeMap Tryz.prog
  have hk := Tryz.underlying3
  have ht := Tryz.underlying67
  have hm := mapOf_made Tryz.prog 3 w
  have hb : Below w.heap.size w (w.alloc (.map #[] 0)) := (Below.refl _ _).alloc (Nat.le_refl _) _
  obtain ⟨w0, hw0⟩ : ∃ w0, w.alloc (.map #[] 0) = w0 := ⟨_, rfl⟩
  obtain ⟨b, hB⟩ : ∃ b, w.heap.size = b := ⟨_, rfl⟩
  rw [hw0] at hm hb
  rw [hB] at hm
  obtain ⟨w1, e1, m1, g1⟩ := hm.put hk ht (by unfold maxLen; omega) (i := 0) (by decide) (dv14 63)
  obtain ⟨w2, e2, m2, g2⟩ := m1.put hk ht (by unfold maxLen; omega) (i := 1) (by decide) (dv14 65)
  obtain ⟨w3, e3, m3, g3⟩ := m2.put hk ht (by unfold maxLen; omega) (i := 2) (by decide) (dv14 67)
  obtain ⟨w4, e4, m4, g4⟩ := m3.put hk ht (by unfold maxLen; omega) (i := 3) (by decide) (dv14 68)
  obtain ⟨w5, e5, m5, g5⟩ := m4.put hk ht (by unfold maxLen; omega) (i := 4) (by decide) (dv14 70)
  obtain ⟨w6, e6, m6, g6⟩ := m5.put hk ht (by unfold maxLen; omega) (i := 5) (by decide) (dv14 72)
  obtain ⟨w7, e7, m7, g7⟩ := m6.put hk ht (by unfold maxLen; omega) (i := 6) (by decide) (dv14 74)
  have hz : ∀ k, some b = some k → w.heap.size ≤ k := fun k hk => by cases hk; omega
  have b1 := hb.grown g1 hb.size hz
  have b2 := b1.grown g2 b1.size hz
  have b3 := b2.grown g3 b2.size hz
  have b4 := b3.grown g4 b3.size hz
  have b5 := b4.grown g5 b4.size hz
  have b6 := b5.grown g6 b5.size hz
  have b7 := b6.grown g7 b6.size hz
  have HM := Lib.hid m7
  have HB7 := Lib.hid b7
  have HBB := Lib.hid (show w.heap.size ≤ b by omega)
  clear m1 m2 m3 m4 m5 m6 m7 g1 g2 g3 g4 g5 g6 g7 b1 b2 b3 b4 b5 b6 b7 hz hb hm
  go_enter Tryz.func35, Tryz.ntmps35
  go_wp2
  go_ret
  exact ⟨b, rfl, HBB.out, HM.out, HB7.out⟩
theorem zero14 (w : World) : (zeroValue 66).run Tryz.prog w = .ok (.agg #[.nilFunc]) w := by kernel_rfl
theorem field14 (w : World) (k : Nat) : (Instr.field 66 (.agg #[.func (.func k) #[] #[]]) 0).run Tryz.prog w = .ok (.func (.func k) #[] #[]) w := by kernel_rfl
/-- An op of package edit in memory. -/
def EOp (w : World) (b : Nat) (o : Op11) : Prop := w.heap[b]? = some (.cells #[.int .i64 o.1, .string o.2.1, .string o.2.2.1, .int .i64 o.2.2.2.1, .string o.2.2.2.2] 37 (0, 0))
theorem eop_new (w : World) (o : Op11) : EOp (w.alloc (.cells #[.int .i64 o.1, .string o.2.1, .string o.2.2.1, .int .i64 o.2.2.2.1, .string o.2.2.2.2] 37)) w.heap.size o := heap_alloc_new _ _
theorem EOp.below {w w' : World} {b : Nat} {o : Op11} (h : EOp w b o) (hb : Below w.heap.size w w') : EOp w' b o := (hb.block b (Array.getElem?_eq_some_iff.1 h).1).trans h
theorem EOp.lt {w : World} {b : Nat} {o : Op11} (h : EOp w b o) : b < w.heap.size := (Array.getElem?_eq_some_iff.1 h).1
/-- Its cells. -/
def EoC (w : World) (b : Nat) (o : Op11) : Prop := w.cell? ⟨b, 0, none⟩ = some (.int .i64 o.1) ∧ w.cell? ⟨b, 1, none⟩ = some (.string o.2.1) ∧ w.cell? ⟨b, 2, none⟩ = some (.string o.2.2.1) ∧ w.cell? ⟨b, 3, none⟩ = some (.int .i64 o.2.2.2.1) ∧ w.cell? ⟨b, 4, none⟩ = some (.string o.2.2.2.2)
theorem EOp.cells {w : World} {b : Nat} {o : Op11} (h : EOp w b o) : EoC w b o := by
  unfold EOp at h
  exact ⟨by simp [World.cell?, h], by simp [World.cell?, h], by simp [World.cell?, h], by simp [World.cell?, h], by simp [World.cell?, h]⟩
/-- One of the seven functions. -/
theorem ans_new14 {r : Int × List Ent} {w w1 : World} (hb : Below w.heap.size w w1) {e : Ending} {w' : World} (h : Ans11 r w1 e w') : Ans11 r w e w' := by
  obtain ⟨a', cap', er, rfl, h1, h2, h3⟩ := h
  exact ⟨a', cap', er, rfl, h1, h2, hb.trans (h3.mono hb.size)⟩
set_option maxRecDepth 10000 in
set_option maxHeartbeats 1000000 in
theorem deed14_1 (T : Tree11) (t : List Ent) (a : Option Addr) (cap : Nat) (o : Op11) (w : World) (hg : EtLaid w) (h : Ents w a cap t) (ht : TreeL t) (hl : t.length ≤ 900) (hf : FewO o) (_ : opOK o) :
    Calls Tryz.prog 63 #[.slice a t.length cap, opV o] w (Ans11 (mkV t o.2.1 1) w) := by
  obtain ⟨W, hW⟩ : ∃ W, w.alloc (.cells #[.int .i64 o.1, .string o.2.1, .string o.2.2.1, .int .i64 o.2.2.2.1, .string o.2.2.2.2] 37) = W := ⟨_, rfl⟩
  obtain ⟨N, hN⟩ : ∃ N, w.heap.size = N := ⟨_, rfl⟩
  have hb : Below w.heap.size w W := by rw [← hW]; exact (Below.refl _ _).alloc (Nat.le_refl _) _
  have hE : EOp W N o := by rw [← hW, ← hN]; exact eop_new _ _
  obtain ⟨c0, c1, c2, c3, c4⟩ := hE.cells
  have HC := Lib.hid (T.create t a cap o.2.1 W (hg.below hg.lt hb) (RowN.below h hb) ht hl (by have := hf.1; omega))
  have HB := Lib.hid hb
  clear hg h ht hl hf hb hE
  go_enter Tryz.func63, Tryz.ntmps63
  go_wp2_with fail
  refine (HC.out).mono ?_
  rintro e w1 hans
  obtain ⟨a', cap', er, rfl, h1, h2, h3⟩ := ans_new14 HB.out hans
  have H1 := Lib.hid h1
  have H2 := Lib.hid h2
  have H3 := Lib.hid h3
  clear hans h1 h2 h3
  go_wp2
  go_ret2
  exact ⟨a', cap', er, rfl, H1.out, H2.out, H3.out⟩
set_option maxRecDepth 10000 in
set_option maxHeartbeats 1000000 in
theorem deed14_2 (T : Tree11) (t : List Ent) (a : Option Addr) (cap : Nat) (o : Op11) (w : World) (hg : EtLaid w) (h : Ents w a cap t) (ht : TreeL t) (hl : t.length ≤ 900) (hf : FewO o) (_ : opOK o) :
    Calls Tryz.prog 65 #[.slice a t.length cap, opV o] w (Ans11 (mkV t o.2.1 2) w) := by
  obtain ⟨W, hW⟩ : ∃ W, w.alloc (.cells #[.int .i64 o.1, .string o.2.1, .string o.2.2.1, .int .i64 o.2.2.2.1, .string o.2.2.2.2] 37) = W := ⟨_, rfl⟩
  obtain ⟨N, hN⟩ : ∃ N, w.heap.size = N := ⟨_, rfl⟩
  have hb : Below w.heap.size w W := by rw [← hW]; exact (Below.refl _ _).alloc (Nat.le_refl _) _
  have hE : EOp W N o := by rw [← hW, ← hN]; exact eop_new _ _
  obtain ⟨c0, c1, c2, c3, c4⟩ := hE.cells
  have HC := Lib.hid (T.mkdir t a cap o.2.1 W (hg.below hg.lt hb) (RowN.below h hb) ht hl (by have := hf.1; omega))
  have HB := Lib.hid hb
  clear hg h ht hl hf hb hE
  go_enter Tryz.func65, Tryz.ntmps65
  go_wp2_with fail
  refine (HC.out).mono ?_
  rintro e w1 hans
  obtain ⟨a', cap', er, rfl, h1, h2, h3⟩ := ans_new14 HB.out hans
  have H1 := Lib.hid h1
  have H2 := Lib.hid h2
  have H3 := Lib.hid h3
  clear hans h1 h2 h3
  go_wp2
  go_ret2
  exact ⟨a', cap', er, rfl, H1.out, H2.out, H3.out⟩
set_option maxRecDepth 10000 in
set_option maxHeartbeats 1000000 in
theorem deed14_3 (T : Tree11) (t : List Ent) (a : Option Addr) (cap : Nat) (o : Op11) (w : World) (hg : EtLaid w) (h : Ents w a cap t) (ht : TreeL t) (hl : t.length ≤ 900) (hf : FewO o) (hk : opOK o) :
    Calls Tryz.prog 67 #[.slice a t.length cap, opV o] w (Ans11 (wrV t o.2.1 o.2.2.2.1 o.2.2.2.2) w) := by
  obtain ⟨W, hW⟩ : ∃ W, w.alloc (.cells #[.int .i64 o.1, .string o.2.1, .string o.2.2.1, .int .i64 o.2.2.2.1, .string o.2.2.2.2] 37) = W := ⟨_, rfl⟩
  obtain ⟨N, hN⟩ : ∃ N, w.heap.size = N := ⟨_, rfl⟩
  have hb : Below w.heap.size w W := by rw [← hW]; exact (Below.refl _ _).alloc (Nat.le_refl _) _
  have hE : EOp W N o := by rw [← hW, ← hN]; exact eop_new _ _
  obtain ⟨c0, c1, c2, c3, c4⟩ := hE.cells
  have HC := Lib.hid (T.write t a cap o.2.1 o.2.2.2.1 o.2.2.2.2 W (hg.below hg.lt hb) (RowN.below h hb) ht hl (by have := hf.1; omega) hk.2.1 (by have := hf.2.2; omega))
  have HB := Lib.hid hb
  clear hg h ht hl hf hk hb hE
  go_enter Tryz.func67, Tryz.ntmps67
  go_wp2_with fail
  refine (HC.out).mono ?_
  rintro e w1 hans
  obtain ⟨a', cap', er, rfl, h1, h2, h3⟩ := ans_new14 HB.out hans
  have H1 := Lib.hid h1
  have H2 := Lib.hid h2
  have H3 := Lib.hid h3
  clear hans h1 h2 h3
  go_wp2
  go_ret2
  exact ⟨a', cap', er, rfl, H1.out, H2.out, H3.out⟩
set_option maxRecDepth 10000 in
set_option maxHeartbeats 1000000 in
theorem deed14_4 (T : Tree11) (t : List Ent) (a : Option Addr) (cap : Nat) (o : Op11) (w : World) (hg : EtLaid w) (h : Ents w a cap t) (ht : TreeL t) (hl : t.length ≤ 900) (hf : FewO o) (hk : opOK o) :
    Calls Tryz.prog 68 #[.slice a t.length cap, opV o] w (Ans11 (ctV t o.2.1 o.2.2.2.1) w) := by
  obtain ⟨W, hW⟩ : ∃ W, w.alloc (.cells #[.int .i64 o.1, .string o.2.1, .string o.2.2.1, .int .i64 o.2.2.2.1, .string o.2.2.2.2] 37) = W := ⟨_, rfl⟩
  obtain ⟨N, hN⟩ : ∃ N, w.heap.size = N := ⟨_, rfl⟩
  have hb : Below w.heap.size w W := by rw [← hW]; exact (Below.refl _ _).alloc (Nat.le_refl _) _
  have hE : EOp W N o := by rw [← hW, ← hN]; exact eop_new _ _
  obtain ⟨c0, c1, c2, c3, c4⟩ := hE.cells
  have HC := Lib.hid (T.cut t a cap o.2.1 o.2.2.2.1 W (hg.below hg.lt hb) (RowN.below h hb) ht hl (by have := hf.1; omega) hk.2.1)
  have HB := Lib.hid hb
  clear hg h ht hl hf hk hb hE
  go_enter Tryz.func68, Tryz.ntmps68
  go_wp2_with fail
  refine (HC.out).mono ?_
  rintro e w1 hans
  obtain ⟨a', cap', er, rfl, h1, h2, h3⟩ := ans_new14 HB.out hans
  have H1 := Lib.hid h1
  have H2 := Lib.hid h2
  have H3 := Lib.hid h3
  clear hans h1 h2 h3
  go_wp2
  go_ret2
  exact ⟨a', cap', er, rfl, H1.out, H2.out, H3.out⟩
set_option maxRecDepth 10000 in
set_option maxHeartbeats 1000000 in
theorem deed14_5 (T : Tree11) (t : List Ent) (a : Option Addr) (cap : Nat) (o : Op11) (w : World) (hg : EtLaid w) (h : Ents w a cap t) (ht : TreeL t) (hl : t.length ≤ 900) (hf : FewO o) (_ : opOK o) :
    Calls Tryz.prog 70 #[.slice a t.length cap, opV o] w (Ans11 (ulV t o.2.1.data.toList) w) := by
  obtain ⟨W, hW⟩ : ∃ W, w.alloc (.cells #[.int .i64 o.1, .string o.2.1, .string o.2.2.1, .int .i64 o.2.2.2.1, .string o.2.2.2.2] 37) = W := ⟨_, rfl⟩
  obtain ⟨N, hN⟩ : ∃ N, w.heap.size = N := ⟨_, rfl⟩
  have hb : Below w.heap.size w W := by rw [← hW]; exact (Below.refl _ _).alloc (Nat.le_refl _) _
  have hE : EOp W N o := by rw [← hW, ← hN]; exact eop_new _ _
  obtain ⟨c0, c1, c2, c3, c4⟩ := hE.cells
  have HC := Lib.hid (T.unlink t a cap o.2.1 W (hg.below hg.lt hb) (RowN.below h hb) ht hl (by have := hf.1; omega))
  have HB := Lib.hid hb
  clear hg h ht hl hf hb hE
  go_enter Tryz.func70, Tryz.ntmps70
  go_wp2_with fail
  refine (HC.out).mono ?_
  rintro e w1 hans
  obtain ⟨a', cap', er, rfl, h1, h2, h3⟩ := ans_new14 HB.out hans
  have H1 := Lib.hid h1
  have H2 := Lib.hid h2
  have H3 := Lib.hid h3
  clear hans h1 h2 h3
  go_wp2
  go_ret2
  exact ⟨a', cap', er, rfl, H1.out, H2.out, H3.out⟩
set_option maxRecDepth 10000 in
set_option maxHeartbeats 1000000 in
theorem deed14_6 (T : Tree11) (t : List Ent) (a : Option Addr) (cap : Nat) (o : Op11) (w : World) (hg : EtLaid w) (h : Ents w a cap t) (ht : TreeL t) (hl : t.length ≤ 900) (hf : FewO o) (_ : opOK o) :
    Calls Tryz.prog 72 #[.slice a t.length cap, opV o] w (Ans11 (rmV t o.2.1.data.toList) w) := by
  obtain ⟨W, hW⟩ : ∃ W, w.alloc (.cells #[.int .i64 o.1, .string o.2.1, .string o.2.2.1, .int .i64 o.2.2.2.1, .string o.2.2.2.2] 37) = W := ⟨_, rfl⟩
  obtain ⟨N, hN⟩ : ∃ N, w.heap.size = N := ⟨_, rfl⟩
  have hb : Below w.heap.size w W := by rw [← hW]; exact (Below.refl _ _).alloc (Nat.le_refl _) _
  have hE : EOp W N o := by rw [← hW, ← hN]; exact eop_new _ _
  obtain ⟨c0, c1, c2, c3, c4⟩ := hE.cells
  have HC := Lib.hid (T.rmdir t a cap o.2.1 W (hg.below hg.lt hb) (RowN.below h hb) ht hl (by have := hf.1; omega))
  have HB := Lib.hid hb
  clear hg h ht hl hf hb hE
  go_enter Tryz.func72, Tryz.ntmps72
  go_wp2_with fail
  refine (HC.out).mono ?_
  rintro e w1 hans
  obtain ⟨a', cap', er, rfl, h1, h2, h3⟩ := ans_new14 HB.out hans
  have H1 := Lib.hid h1
  have H2 := Lib.hid h2
  have H3 := Lib.hid h3
  clear hans h1 h2 h3
  go_wp2
  go_ret2
  exact ⟨a', cap', er, rfl, H1.out, H2.out, H3.out⟩
set_option maxRecDepth 10000 in
set_option maxHeartbeats 1000000 in
theorem deed14_7 (T : Tree11) (t : List Ent) (a : Option Addr) (cap : Nat) (o : Op11) (w : World) (hg : EtLaid w) (h : Ents w a cap t) (ht : TreeL t) (hl : t.length ≤ 900) (hf : FewO o) (_ : opOK o) :
    Calls Tryz.prog 74 #[.slice a t.length cap, opV o] w (Ans11 (rnV t o.2.1 o.2.2.1) w) := by
  obtain ⟨W, hW⟩ : ∃ W, w.alloc (.cells #[.int .i64 o.1, .string o.2.1, .string o.2.2.1, .int .i64 o.2.2.2.1, .string o.2.2.2.2] 37) = W := ⟨_, rfl⟩
  obtain ⟨N, hN⟩ : ∃ N, w.heap.size = N := ⟨_, rfl⟩
  have hb : Below w.heap.size w W := by rw [← hW]; exact (Below.refl _ _).alloc (Nat.le_refl _) _
  have hE : EOp W N o := by rw [← hW, ← hN]; exact eop_new _ _
  obtain ⟨c0, c1, c2, c3, c4⟩ := hE.cells
  have HC := Lib.hid (T.rename t a cap o.2.1 o.2.2.1 W (hg.below hg.lt hb) (RowN.below h hb) ht hl (by have := hf.1; omega) (by have := hf.2.1; omega))
  have HB := Lib.hid hb
  clear hg h ht hl hf hb hE
  go_enter Tryz.func74, Tryz.ntmps74
  go_wp2_with fail
  refine (HC.out).mono ?_
  rintro e w1 hans
  obtain ⟨a', cap', er, rfl, h1, h2, h3⟩ := ans_new14 HB.out hans
  have H1 := Lib.hid h1
  have H2 := Lib.hid h2
  have H3 := Lib.hid h3
  clear hans h1 h2 h3
  go_wp2
  go_ret2
  exact ⟨a', cap', er, rfl, H1.out, H2.out, H3.out⟩
theorem store_some14 (w : World) (a : Addr) (v : Value) (hv : v.oneCell' = true) (h1 : (w.cell? a).isSome = true) (h2 : w.frozen? a = false) : (store a v).run Tryz.prog w = .ok () (w.setCell a v) := by
  rw [run_store _ _ _ _ _ hv]
  cases h : w.cell? a with
  | none => rw [h] at h1; cases h1
  | some u => simp [h2]
theorem new_drew14 (W : World) (o : Obj) : (W.alloc o).drew.heap[W.heap.size]? = some o := by
  have := heap_alloc_new W o
  exact this
theorem new_drew14b (W : World) (o : Obj) : (W.drew.alloc o).heap[W.heap.size]? = some o := by
  have := heap_alloc_new W.drew o
  exact this
theorem bAl14 {a w : World} (h : Below a.heap.size a w) (o : Obj) : Below a.heap.size a (w.alloc o) := h.alloc h.size o
set_option maxRecDepth 10000 in
set_option maxHeartbeats 4000000 in
theorem right14e (o : Op11) (w : World) (hk : opOK o) : Calls Tryz.prog 29 #[opV o] w fun e w' => e = .returned (.bool (decide (rOp o))) ∧ Below w.heap.size w w' := by
  obtain ⟨W, hW⟩ : ∃ W, w.alloc (.cells #[.int .i64 o.1, .string o.2.1, .string o.2.2.1, .int .i64 o.2.2.2.1, .string o.2.2.2.2] 37) = W := ⟨_, rfl⟩
  obtain ⟨N, hN⟩ : ∃ N, w.heap.size = N := ⟨_, rfl⟩
  have hb : Below w.heap.size w W := by rw [← hW]; exact (Below.refl _ _).alloc (Nat.le_refl _) _
  have hE : EOp W N o := by rw [← hW, ← hN]; exact eop_new _ _
  obtain ⟨c0, -, -, -, -⟩ := hE.cells
  have HE := Lib.hid hE
  have HB := Lib.hid hb
  have HKS : Hid (∀ X, Below W.heap.size W X → X.cell? ⟨N, 0, none⟩ = some (.int .i64 o.1)) := fun X hX => ((HE.out.below hX).cells).1
  obtain ⟨zf, hzf, hz9⟩ : ∃ zf, (deedF o.1).getD (.agg #[.nilFunc]) = .agg #[zf] ∧ (zf = .nilFunc ∨ ∃ k, zf = .func (.func k) #[] #[]) := by
    unfold deedF
    repeat' split
    all_goals first | exact ⟨_, rfl, .inl rfl⟩ | exact ⟨_, rfl, .inr ⟨_, rfl⟩⟩
  obtain ⟨is, his⟩ : ∃ is, decide (0 ≤ o.1 ∧ o.1 ≤ 6) = is := ⟨_, rfl⟩
  have HDD : Hid (∀ X, Below W.heap.size W X → Calls Tryz.prog 35 #[] X fun e w' => ∃ b, e = .returned (.map (some b)) ∧ (∀ Y, Below w'.heap.size w' Y → (Instr.lookup 67 (.map (some b)) (.int .i64 o.1) true).run Tryz.prog Y = .ok (.tuple #[.agg #[zf], .bool is]) Y) ∧ Below X.heap.size X w' ∧ Below W.heap.size W w') := fun X hX => by
    refine (deeds14 X).mono ?_
    rintro e w' ⟨b, rfl, _, hm, hb⟩
    refine ⟨b, rfl, fun Y hY => ?_, hb, hX.trans (hb.mono hX.size)⟩
    have := ((hm.below hY hm.lt).look Tryz.underlying3 Tryz.underlying67 (zero14 Y) (i := o.1) (by simp [Lit.wf]; exact hk.1)).2
    rw [hzf, deedF_is, his] at this
    exact this
  have HDA : Hid (∀ X, X.heap[W.heap.size]? = some (.cells #[.nilFunc] 66 (0, 0)) → Below W.heap.size W X → Calls Tryz.prog 35 #[] X fun e w' => ∃ b, e = .returned (.map (some b)) ∧ (∀ Y, Below w'.heap.size w' Y → (Instr.lookup 67 (.map (some b)) (.int .i64 o.1) true).run Tryz.prog Y = .ok (.tuple #[.agg #[zf], .bool is]) Y) ∧ Below X.heap.size X w' ∧ Below W.heap.size W w' ∧ w'.cell? ⟨W.heap.size, 0, none⟩ = some .nilFunc ∧ w'.frozen? ⟨W.heap.size, 0, none⟩ = false) := fun X hn hX => by
    refine (HDD.out X hX).mono ?_
    rintro e w' ⟨b, rfl, h1, h2, h3⟩
    have h9 := (h2.block _ (Array.getElem?_eq_some_iff.1 hn).1).trans hn
    exact ⟨b, rfl, h1, h2, h3, by simp [World.cell?, h9], by simp [World.frozen?, h9]⟩
  have HIS := Lib.hid his
  clear hb hE hzf his
  rcases hz9 with rfl | ⟨kk, rfl⟩
  all_goals
    go_enter Tryz.func29, Tryz.ntmps29
    have hne := World.new_ne W _ c0
    have hst := store_some14
    have hone : Value.oneCell' .nilFunc = true ∧ ∀ k, Value.oneCell' (.func (.func k) #[] #[]) = true := ⟨rfl, fun _ => rfl⟩
    obtain ⟨hone, hone2⟩ := hone
    go_wp2_with fail
    go_region_held3 (fun X => X.cell? ⟨N, 0, none⟩ = some (.int .i64 o.1))
      (first | (with_reducible refine HKS.out _ ?_; (first | with_reducible assumption | with_reducible exact Below.refl _ _ | with_reducible exact (Below.refl _ _).drew | with_reducible exact bAl14 (Below.refl _ _) _ | with_reducible exact (bAl14 (Below.refl _ _) _).drew | with_reducible exact bAl14 ((Below.refl _ _).drew) _ | (with_reducible refine Below.drew ?_; with_reducible assumption) | (with_reducible refine bAl14 ?_ _; with_reducible assumption) | (with_reducible refine Below.drew ?_; with_reducible refine bAl14 ?_ _; with_reducible assumption) | (with_reducible refine bAl14 ?_ _; with_reducible refine Below.drew ?_; with_reducible assumption))) | go_keep)
      (first
        | (go_at_call 35; with_reducible refine (HDA.out _ ?_ ?_).mono ?_; (focus (first | exact heap_alloc_new W _ | exact new_drew14 W _ | exact new_drew14b W _)); (focus ((first | with_reducible assumption | with_reducible exact Below.refl _ _ | with_reducible exact (Below.refl _ _).drew | with_reducible exact bAl14 (Below.refl _ _) _ | with_reducible exact (bAl14 (Below.refl _ _) _).drew | with_reducible exact bAl14 ((Below.refl _ _).drew) _ | (with_reducible refine Below.drew ?_; with_reducible assumption) | (with_reducible refine bAl14 ?_ _; with_reducible assumption) | (with_reducible refine Below.drew ?_; with_reducible refine bAl14 ?_ _; with_reducible assumption) | (with_reducible refine bAl14 ?_ _; with_reducible refine Below.drew ?_; with_reducible assumption)))); rintro r w3 ⟨b3, rfl, hl3, hB3, hBW, hn3, hf3⟩; have l1 := hl3 w3 (Below.refl _ _); have l2 := hl3 w3.drew (Below.refl _ _).drew; have l3 := hl3 (w3.alloc (.cells #[.nilFunc] 66)) (bAl14 (Below.refl _ _) _); have l4 := hl3 (w3.alloc (.cells #[.nilFunc] 66)).drew ((bAl14 (Below.refl _ _) _).drew); have l5 := hl3 (w3.drew.alloc (.cells #[.nilFunc] 66)) (bAl14 ((Below.refl _ _).drew) _); clear hl3)
        | (go_at_call 35; with_reducible refine (HDD.out _ ?_).mono ?_; (focus (first | with_reducible exact Below.refl _ _ | with_reducible exact (Below.refl _ _).drew)); rintro r w3 ⟨b3, rfl, hl3, hB3, hBW⟩; have l1 := hl3 w3 (Below.refl _ _); have l2 := hl3 w3.drew (Below.refl _ _).drew; have l3 := hl3 (w3.alloc (.cells #[.nilFunc] 66)) (bAl14 (Below.refl _ _) _); have l4 := hl3 (w3.alloc (.cells #[.nilFunc] 66)).drew ((bAl14 (Below.refl _ _) _).drew); have l5 := hl3 (w3.drew.alloc (.cells #[.nilFunc] 66)) (bAl14 ((Below.refl _ _).drew) _); clear hl3))
    all_goals
      obtain ⟨-, k1, k2, -, k4⟩ := (HE.out.below hBW).cells
      have hN3 : N < w3.heap.size := (HE.out.below hBW).lt
      have HBF := Lib.hid (HB.out.trans (hBW.mono HB.out.size))
      clear l1 l2 l3 l4 l5 hB3 hBW
      cases is with
      | false =>
        have HV := Lib.hid (show decide (rOp o) = false from decide_eq_false fun h => of_decide_eq_false HIS.out h.1)
        go_wp2
        go_ret
        exact ⟨by rw [HV.out]; rfl, by first | exact bAl14 HBF.out _ | exact HBF.out.setCell (p := ⟨W.heap.size, 0, none⟩) HB.out.size _ | (rw [← hN]; first | exact bAl14 HBF.out _ | exact HBF.out.setCell (p := ⟨W.heap.size, 0, none⟩) HB.out.size _)⟩
      | true =>
        by_cases h1 : (o.2.1.size : Int) ≤ 54
        · by_cases h2 : (o.2.2.1.size : Int) ≤ 54
          · by_cases h3 : (o.2.2.2.2.size : Int) ≤ 256
            · have HV := Lib.hid (show decide (rOp o) = true from decide_eq_true ⟨of_decide_eq_true HIS.out, by omega, by omega, by omega⟩)
              go_wp2
              go_ret
              exact ⟨by rw [HV.out]; rfl, by first | exact bAl14 HBF.out _ | exact HBF.out.setCell (p := ⟨W.heap.size, 0, none⟩) HB.out.size _ | (rw [← hN]; first | exact bAl14 HBF.out _ | exact HBF.out.setCell (p := ⟨W.heap.size, 0, none⟩) HB.out.size _)⟩
            · have HV := Lib.hid (show decide (rOp o) = false from decide_eq_false fun h => h3 (by have := h.2.2.2; omega))
              go_wp2
              go_ret
              exact ⟨by rw [HV.out]; rfl, by first | exact bAl14 HBF.out _ | exact HBF.out.setCell (p := ⟨W.heap.size, 0, none⟩) HB.out.size _ | (rw [← hN]; first | exact bAl14 HBF.out _ | exact HBF.out.setCell (p := ⟨W.heap.size, 0, none⟩) HB.out.size _)⟩
          · have HV := Lib.hid (show decide (rOp o) = false from decide_eq_false fun h => h2 (by have := h.2.2.1; omega))
            go_wp2
            go_ret
            exact ⟨by rw [HV.out]; rfl, by first | exact bAl14 HBF.out _ | exact HBF.out.setCell (p := ⟨W.heap.size, 0, none⟩) HB.out.size _ | (rw [← hN]; first | exact bAl14 HBF.out _ | exact HBF.out.setCell (p := ⟨W.heap.size, 0, none⟩) HB.out.size _)⟩
        · have HV := Lib.hid (show decide (rOp o) = false from decide_eq_false fun h => h1 (by have := h.2.1; omega))
          go_wp2
          go_ret
          exact ⟨by rw [HV.out]; rfl, by first | exact bAl14 HBF.out _ | exact HBF.out.setCell (p := ⟨W.heap.size, 0, none⟩) HB.out.size _ | (rw [← hN]; first | exact bAl14 HBF.out _ | exact HBF.out.setCell (p := ⟨W.heap.size, 0, none⟩) HB.out.size _)⟩
end Go.Proofs.YtjliagcalbdnhaaGreatDoor

namespace Go.Proofs.YtjliagcalbdnhaaGreatDoor
open Go.RowKit

section
variable (S : List (List Ent)) (u c : List Ent) (a a2 a3 : Option Addr) (cap cap2 cap3 : Nat) (p q : ByteArray) (n : Int) (s : ByteArray) (w : World)
set_option maxRecDepth 10000 in
set_option maxHeartbeats 2000000 in
theorem fol14_0 (R : Read11) (d : ByteArray) (hg : EtLaid w) (hu : Ents w a2 cap2 u) (hc : Ents w a3 cap3 c) (hT : TreeL c) (hl : c.length ≤ 900) (hp : p.size ≤ 100000) (hG : Gd14 u (p, 1, d)) (hr : rdV c p.data.toList = (0, d)) :
    Calls Tryz.prog 33 #[.slice a S.length cap, .slice a2 u.length cap2, .slice a3 c.length cap3, opV (0, p, q, n, s)] w (Ans11 (ans14 (lay14 u (p, 1, d))) w) := by
  obtain ⟨W, hW⟩ : ∃ W, w.alloc (.cells #[.int .i64 0, .string p, .string q, .int .i64 n, .string s] 37) = W := ⟨_, rfl⟩
  obtain ⟨N, hN⟩ : ∃ N, w.heap.size = N := ⟨_, rfl⟩
  have hb : Below w.heap.size w W := by rw [← hW]; exact (Below.refl _ _).alloc (Nat.le_refl _) _
  have hE : EOp W N (0, p, q, n, s) := by rw [← hW, ← hN]; exact eop_new _ (0, p, q, n, s)
  obtain ⟨c0, c1, c2, -, -⟩ : W.cell? ⟨N, 0, none⟩ = some (.int .i64 0) ∧ W.cell? ⟨N, 1, none⟩ = some (.string p) ∧ W.cell? ⟨N, 2, none⟩ = some (.string q) ∧ W.cell? ⟨N, 3, none⟩ = some (.int .i64 n) ∧ W.cell? ⟨N, 4, none⟩ = some (.string s) := hE.cells
  have HEO := Lib.hid hE
  have HB := Lib.hid hb
  have HC := Lib.hid (copied14 R u c a2 a3 cap2 cap3 p d W (RowN.below hu hb) (RowN.below hc hb) hT hl hp hG hr (hg.below hg.lt hb))
  obtain ⟨v, hv⟩ : ∃ v, ans14 (lay14 u (p, 1, d)) = v := ⟨_, rfl⟩
  rw [hv] at HC ⊢
  clear hg hu hc hT hl hp hG hr hb hE hv
  go_enter Tryz.func33, Tryz.ntmps33
  go_wp2_with fail
  refine (HC.out).mono ?_
  rintro r w4 ⟨a4, cap4, er4, rfl, h4, her4, hb4⟩
  have HB4 := Lib.hid (HB.out.trans (hb4.mono HB.out.size))
  have H4 := Lib.hid h4
  have HER := Lib.hid her4
  clear h4 her4 hb4 c0 c1 c2
  go_wp2
  go_ret2
  exact ⟨a4, cap4, er4, rfl, H4.out, HER.out, by first | exact HB4.out | (rw [hN]; exact HB4.out) | (rw [← hN]; exact HB4.out)⟩
set_option maxRecDepth 10000 in
set_option maxHeartbeats 2000000 in
theorem fol14_2 (R : Read11) (d : ByteArray) (hg : EtLaid w) (hu : Ents w a2 cap2 u) (hc : Ents w a3 cap3 c) (hT : TreeL c) (hl : c.length ≤ 900) (hp : p.size ≤ 100000) (hG : Gd14 u (p, 1, d)) (hr : rdV c p.data.toList = (0, d)) :
    Calls Tryz.prog 33 #[.slice a S.length cap, .slice a2 u.length cap2, .slice a3 c.length cap3, opV (2, p, q, n, s)] w (Ans11 (ans14 (lay14 u (p, 1, d))) w) := by
  obtain ⟨W, hW⟩ : ∃ W, w.alloc (.cells #[.int .i64 2, .string p, .string q, .int .i64 n, .string s] 37) = W := ⟨_, rfl⟩
  obtain ⟨N, hN⟩ : ∃ N, w.heap.size = N := ⟨_, rfl⟩
  have hb : Below w.heap.size w W := by rw [← hW]; exact (Below.refl _ _).alloc (Nat.le_refl _) _
  have hE : EOp W N (2, p, q, n, s) := by rw [← hW, ← hN]; exact eop_new _ (2, p, q, n, s)
  obtain ⟨c0, c1, c2, -, -⟩ : W.cell? ⟨N, 0, none⟩ = some (.int .i64 2) ∧ W.cell? ⟨N, 1, none⟩ = some (.string p) ∧ W.cell? ⟨N, 2, none⟩ = some (.string q) ∧ W.cell? ⟨N, 3, none⟩ = some (.int .i64 n) ∧ W.cell? ⟨N, 4, none⟩ = some (.string s) := hE.cells
  have HEO := Lib.hid hE
  have HB := Lib.hid hb
  have HC := Lib.hid (copied14 R u c a2 a3 cap2 cap3 p d W (RowN.below hu hb) (RowN.below hc hb) hT hl hp hG hr (hg.below hg.lt hb))
  obtain ⟨v, hv⟩ : ∃ v, ans14 (lay14 u (p, 1, d)) = v := ⟨_, rfl⟩
  rw [hv] at HC ⊢
  clear hg hu hc hT hl hp hG hr hb hE hv
  go_enter Tryz.func33, Tryz.ntmps33
  go_wp2_with fail
  refine (HC.out).mono ?_
  rintro r w4 ⟨a4, cap4, er4, rfl, h4, her4, hb4⟩
  have HB4 := Lib.hid (HB.out.trans (hb4.mono HB.out.size))
  have H4 := Lib.hid h4
  have HER := Lib.hid her4
  clear h4 her4 hb4 c0 c1 c2
  go_wp2
  go_ret2
  exact ⟨a4, cap4, er4, rfl, H4.out, HER.out, by first | exact HB4.out | (rw [hN]; exact HB4.out) | (rw [← hN]; exact HB4.out)⟩
set_option maxRecDepth 10000 in
set_option maxHeartbeats 2000000 in
theorem fol14_3 (R : Read11) (d : ByteArray) (hg : EtLaid w) (hu : Ents w a2 cap2 u) (hc : Ents w a3 cap3 c) (hT : TreeL c) (hl : c.length ≤ 900) (hp : p.size ≤ 100000) (hG : Gd14 u (p, 1, d)) (hr : rdV c p.data.toList = (0, d)) :
    Calls Tryz.prog 33 #[.slice a S.length cap, .slice a2 u.length cap2, .slice a3 c.length cap3, opV (3, p, q, n, s)] w (Ans11 (ans14 (lay14 u (p, 1, d))) w) := by
  obtain ⟨W, hW⟩ : ∃ W, w.alloc (.cells #[.int .i64 3, .string p, .string q, .int .i64 n, .string s] 37) = W := ⟨_, rfl⟩
  obtain ⟨N, hN⟩ : ∃ N, w.heap.size = N := ⟨_, rfl⟩
  have hb : Below w.heap.size w W := by rw [← hW]; exact (Below.refl _ _).alloc (Nat.le_refl _) _
  have hE : EOp W N (3, p, q, n, s) := by rw [← hW, ← hN]; exact eop_new _ (3, p, q, n, s)
  obtain ⟨c0, c1, c2, -, -⟩ : W.cell? ⟨N, 0, none⟩ = some (.int .i64 3) ∧ W.cell? ⟨N, 1, none⟩ = some (.string p) ∧ W.cell? ⟨N, 2, none⟩ = some (.string q) ∧ W.cell? ⟨N, 3, none⟩ = some (.int .i64 n) ∧ W.cell? ⟨N, 4, none⟩ = some (.string s) := hE.cells
  have HEO := Lib.hid hE
  have HB := Lib.hid hb
  have HC := Lib.hid (copied14 R u c a2 a3 cap2 cap3 p d W (RowN.below hu hb) (RowN.below hc hb) hT hl hp hG hr (hg.below hg.lt hb))
  obtain ⟨v, hv⟩ : ∃ v, ans14 (lay14 u (p, 1, d)) = v := ⟨_, rfl⟩
  rw [hv] at HC ⊢
  clear hg hu hc hT hl hp hG hr hb hE hv
  go_enter Tryz.func33, Tryz.ntmps33
  go_wp2_with fail
  refine (HC.out).mono ?_
  rintro r w4 ⟨a4, cap4, er4, rfl, h4, her4, hb4⟩
  have HB4 := Lib.hid (HB.out.trans (hb4.mono HB.out.size))
  have H4 := Lib.hid h4
  have HER := Lib.hid her4
  clear h4 her4 hb4 c0 c1 c2
  go_wp2
  go_ret2
  exact ⟨a4, cap4, er4, rfl, H4.out, HER.out, by first | exact HB4.out | (rw [hN]; exact HB4.out) | (rw [← hN]; exact HB4.out)⟩
set_option maxRecDepth 10000 in
set_option maxHeartbeats 4000000 in
theorem fol14_1 (hu : Ents w a2 cap2 u) (hU : RightL u) (hG : Gd14 u (p, fresh14 u p, ⟨#[]⟩)) :
    Calls Tryz.prog 33 #[.slice a S.length cap, .slice a2 u.length cap2, .slice a3 c.length cap3, opV (1, p, q, n, s)] w (Ans11 (ans14 (lay14 u (p, fresh14 u p, ⟨#[]⟩))) w) := by
  obtain ⟨W, hW⟩ : ∃ W, w.alloc (.cells #[.int .i64 1, .string p, .string q, .int .i64 n, .string s] 37) = W := ⟨_, rfl⟩
  obtain ⟨N, hN⟩ : ∃ N, w.heap.size = N := ⟨_, rfl⟩
  have hb : Below w.heap.size w W := by rw [← hW]; exact (Below.refl _ _).alloc (Nat.le_refl _) _
  have hE : EOp W N (1, p, q, n, s) := by rw [← hW, ← hN]; exact eop_new _ (1, p, q, n, s)
  obtain ⟨c0, c1, c2, -, -⟩ : W.cell? ⟨N, 0, none⟩ = some (.int .i64 1) ∧ W.cell? ⟨N, 1, none⟩ = some (.string p) ∧ W.cell? ⟨N, 2, none⟩ = some (.string q) ∧ W.cell? ⟨N, 3, none⟩ = some (.int .i64 n) ∧ W.cell? ⟨N, 4, none⟩ = some (.string s) := hE.cells
  have HEO := Lib.hid hE
  have HB := Lib.hid hb
  have HU := Lib.hid (RowN.below hu hb)
  obtain ⟨f, hf⟩ : ∃ f, fresh14 u p = f := ⟨_, rfl⟩
  rw [hf] at hG
  obtain ⟨v, hv⟩ : ∃ v, ans14 (lay14 u (p, fresh14 u p, ⟨#[]⟩)) = v := ⟨_, rfl⟩
  have hv' := hv
  rw [hf] at hv'
  have HFR : Hid (∀ X, Below W.heap.size W X → Calls Tryz.prog 60 #[.slice a2 u.length cap2, .string p] X fun e w' => e = .returned (.int .i64 f) ∧ Below W.heap.size W w') := fun X hX => by
    refine (freshC14 u a2 cap2 p X (RowN.below HU.out hX) hU).mono ?_
    rw [hf]
    rintro e w' ⟨rfl, hb⟩
    exact ⟨rfl, hX.trans (hb.mono hX.size)⟩
  have HLD : Hid (∀ X, Below W.heap.size W X → Calls Tryz.prog 59 #[.slice a2 u.length cap2, .agg #[.string p, .int .i64 f, .string ⟨#[]⟩]] X fun e w' => ∃ a' cap' er, e = .returned (.tuple #[.slice a' v.2.length cap', er]) ∧ Ents w' a' cap' v.2 ∧ Er w' v.1 er ∧ Below W.heap.size W w') := fun X hX => by
    have := laid14 p.data.toList (rE_isP hG.2.1).1 u (p, f, ⟨#[]⟩) a2 cap2 X rfl (RowN.below HU.out hX) hG
    rw [hv'] at this
    refine this.mono ?_
    rintro e w' ⟨a', cap', er, rfl, h1, h2, h3⟩
    exact ⟨a', cap', er, rfl, h1, h2, hX.trans (h3.mono hX.size)⟩
  have HKS : Hid (∀ X, Below W.heap.size W X → X.cell? ⟨N, 1, none⟩ = some (.string p)) := fun X hX => ((HEO.out.below hX).cells).2.1
  rw [hv]
  clear hu hU hG hb hE hv hv' hf c2
  go_enter Tryz.func33, Tryz.ntmps33
  go_wp2_with fail
  go_region_held3 (fun X => X.cell? ⟨N, 1, none⟩ = some (.string p))
    ((with_reducible refine HKS.out _ ?_; (first | with_reducible assumption | with_reducible exact Below.refl _ _ | with_reducible exact (Below.refl _ _).drew | (with_reducible refine Below.drew ?_; with_reducible assumption))))
    (first
      | (go_at_call 60; with_reducible refine (HFR.out _ ?_).mono ?_; (focus ((first | with_reducible assumption | with_reducible exact Below.refl _ _ | with_reducible exact (Below.refl _ _).drew | (with_reducible refine Below.drew ?_; with_reducible assumption)))); rintro e w3 ⟨rfl, hB3⟩)
      | (go_at_call 59; with_reducible refine (HLD.out _ ?_).mono ?_; (focus ((first | with_reducible assumption | with_reducible exact Below.refl _ _ | with_reducible exact (Below.refl _ _).drew | (with_reducible refine Below.drew ?_; with_reducible assumption)))); rintro e w4 ⟨a4, cap4, er4, rfl, h4, her4, hB4⟩))
  all_goals
    have HB4 := Lib.hid (HB.out.trans (hB4.mono HB.out.size))
    have H4 := Lib.hid h4
    have HER := Lib.hid her4
    clear h4 her4 hB4 hB3
    go_wp2
    go_ret2
    exact ⟨a4, cap4, er4, rfl, H4.out, HER.out, by first | exact HB4.out | (rw [hN]; exact HB4.out) | (rw [← hN]; exact HB4.out)⟩
set_option maxRecDepth 10000 in
set_option maxHeartbeats 2000000 in
theorem fol14_4 (hg : EtLaid w) (h : Stk w a cap S) (hu : Ents w a2 cap2 u) (hok : OK14 (S ++ [u])) (hp : isP p.data.toList) (hr : p.data.toList ≠ [47]) (hin : pin14 (over (stk S) u) p.data.toList) :
    Calls Tryz.prog 33 #[.slice a S.length cap, .slice a2 u.length cap2, .slice a3 c.length cap3, opV (4, p, q, n, s)] w (Ans11 (ans14 (rem14 (stk S) u p)) w) := by
  obtain ⟨W, hW⟩ : ∃ W, w.alloc (.cells #[.int .i64 4, .string p, .string q, .int .i64 n, .string s] 37) = W := ⟨_, rfl⟩
  obtain ⟨N, hN⟩ : ∃ N, w.heap.size = N := ⟨_, rfl⟩
  have hb : Below w.heap.size w W := by rw [← hW]; exact (Below.refl _ _).alloc (Nat.le_refl _) _
  have hE : EOp W N (4, p, q, n, s) := by rw [← hW, ← hN]; exact eop_new _ (4, p, q, n, s)
  obtain ⟨c0, c1, c2, -, -⟩ : W.cell? ⟨N, 0, none⟩ = some (.int .i64 4) ∧ W.cell? ⟨N, 1, none⟩ = some (.string p) ∧ W.cell? ⟨N, 2, none⟩ = some (.string q) ∧ W.cell? ⟨N, 3, none⟩ = some (.int .i64 n) ∧ W.cell? ⟨N, 4, none⟩ = some (.string s) := hE.cells
  have HEO := Lib.hid hE
  have HB := Lib.hid hb
  have HC := Lib.hid (removed14 S u a a2 cap cap2 p W (hg.below hg.lt hb) (h.below hb) (RowN.below hu hb) hok hp hr hin)
  obtain ⟨v, hv⟩ : ∃ v, ans14 (rem14 (stk S) u p) = v := ⟨_, rfl⟩
  rw [hv] at HC ⊢
  clear hg h hu hok hp hr hin hb hE hv
  go_enter Tryz.func33, Tryz.ntmps33
  go_wp2_with fail
  refine (HC.out).mono ?_
  rintro r w4 ⟨a4, cap4, er4, rfl, h4, her4, hb4⟩
  have HB4 := Lib.hid (HB.out.trans (hb4.mono HB.out.size))
  have H4 := Lib.hid h4
  have HER := Lib.hid her4
  clear h4 her4 hb4 c0 c1 c2
  go_wp2
  go_ret2
  exact ⟨a4, cap4, er4, rfl, H4.out, HER.out, by first | exact HB4.out | (rw [hN]; exact HB4.out) | (rw [← hN]; exact HB4.out)⟩
set_option maxRecDepth 10000 in
set_option maxHeartbeats 2000000 in
theorem fol14_5 (hg : EtLaid w) (h : Stk w a cap S) (hu : Ents w a2 cap2 u) (hok : OK14 (S ++ [u])) (hp : isP p.data.toList) (hr : p.data.toList ≠ [47]) (hin : pin14 (over (stk S) u) p.data.toList) :
    Calls Tryz.prog 33 #[.slice a S.length cap, .slice a2 u.length cap2, .slice a3 c.length cap3, opV (5, p, q, n, s)] w (Ans11 (ans14 (rem14 (stk S) u p)) w) := by
  obtain ⟨W, hW⟩ : ∃ W, w.alloc (.cells #[.int .i64 5, .string p, .string q, .int .i64 n, .string s] 37) = W := ⟨_, rfl⟩
  obtain ⟨N, hN⟩ : ∃ N, w.heap.size = N := ⟨_, rfl⟩
  have hb : Below w.heap.size w W := by rw [← hW]; exact (Below.refl _ _).alloc (Nat.le_refl _) _
  have hE : EOp W N (5, p, q, n, s) := by rw [← hW, ← hN]; exact eop_new _ (5, p, q, n, s)
  obtain ⟨c0, c1, c2, -, -⟩ : W.cell? ⟨N, 0, none⟩ = some (.int .i64 5) ∧ W.cell? ⟨N, 1, none⟩ = some (.string p) ∧ W.cell? ⟨N, 2, none⟩ = some (.string q) ∧ W.cell? ⟨N, 3, none⟩ = some (.int .i64 n) ∧ W.cell? ⟨N, 4, none⟩ = some (.string s) := hE.cells
  have HEO := Lib.hid hE
  have HB := Lib.hid hb
  have HC := Lib.hid (removed14 S u a a2 cap cap2 p W (hg.below hg.lt hb) (h.below hb) (RowN.below hu hb) hok hp hr hin)
  obtain ⟨v, hv⟩ : ∃ v, ans14 (rem14 (stk S) u p) = v := ⟨_, rfl⟩
  rw [hv] at HC ⊢
  clear hg h hu hok hp hr hin hb hE hv
  go_enter Tryz.func33, Tryz.ntmps33
  go_wp2_with fail
  refine (HC.out).mono ?_
  rintro r w4 ⟨a4, cap4, er4, rfl, h4, her4, hb4⟩
  have HB4 := Lib.hid (HB.out.trans (hb4.mono HB.out.size))
  have H4 := Lib.hid h4
  have HER := Lib.hid her4
  clear h4 her4 hb4 c0 c1 c2
  go_wp2
  go_ret2
  exact ⟨a4, cap4, er4, rfl, H4.out, HER.out, by first | exact HB4.out | (rw [hN]; exact HB4.out) | (rw [← hN]; exact HB4.out)⟩
set_option maxRecDepth 10000 in
set_option maxHeartbeats 4000000 in
theorem fol14_6 (R : Read11) (d : ByteArray) (hg : EtLaid w) (h : Stk w a cap S) (hu : Ents w a2 cap2 u) (hok : OK14 (S ++ [u])) (hp : isP p.data.toList) (hr : p.data.toList ≠ [47]) (hin : pin14 (over (stk S) u) p.data.toList)
    (hc : Ents w a3 cap3 c) (hT : TreeL c) (hl : c.length ≤ 900) (hq : q.size ≤ 100000) (hrd : rdV c q.data.toList = (0, d)) (h64 : 64 < (rem14 (stk S) u p).length → ans14 (lay14 (rem14 (stk S) u p) (q, 1, d)) = (9, [])) (hG : ¬ 64 < (rem14 (stk S) u p).length → Gd14 (rem14 (stk S) u p) (q, 1, d)) :
    Calls Tryz.prog 33 #[.slice a S.length cap, .slice a2 u.length cap2, .slice a3 c.length cap3, opV (6, p, q, n, s)] w (Ans11 (ans14 (lay14 (rem14 (stk S) u p) (q, 1, d))) w) := by
  obtain ⟨W, hW⟩ : ∃ W, w.alloc (.cells #[.int .i64 6, .string p, .string q, .int .i64 n, .string s] 37) = W := ⟨_, rfl⟩
  obtain ⟨N, hN⟩ : ∃ N, w.heap.size = N := ⟨_, rfl⟩
  have hb : Below w.heap.size w W := by rw [← hW]; exact (Below.refl _ _).alloc (Nat.le_refl _) _
  have hE : EOp W N (6, p, q, n, s) := by rw [← hW, ← hN]; exact eop_new _ (6, p, q, n, s)
  obtain ⟨c0, c1, c2, -, -⟩ : W.cell? ⟨N, 0, none⟩ = some (.int .i64 6) ∧ W.cell? ⟨N, 1, none⟩ = some (.string p) ∧ W.cell? ⟨N, 2, none⟩ = some (.string q) ∧ W.cell? ⟨N, 3, none⟩ = some (.int .i64 n) ∧ W.cell? ⟨N, 4, none⟩ = some (.string s) := hE.cells
  have HEO := Lib.hid hE
  have HB := Lib.hid hb
  have HC := Lib.hid (removed14 S u a a2 cap cap2 p W (hg.below hg.lt hb) (h.below hb) (RowN.below hu hb) hok hp hr hin)
  obtain ⟨x, hx⟩ : ∃ x, rem14 (stk S) u p = x := ⟨_, rfl⟩
  rw [hx] at HC h64 hG ⊢
  obtain ⟨v, hv⟩ : ∃ v, ans14 (lay14 x (q, 1, d)) = v := ⟨_, rfl⟩
  rw [hv] at h64 ⊢
  have HCC := Lib.hid (RowN.below hc hb)
  have HG := Lib.hid (hg.below hg.lt hb)
  by_cases h6 : 64 < x.length
  · rw [show ans14 x = (9, []) from if_pos h6] at HC
    have HV := Lib.hid (h64 h6)
    clear hg h hu hok hp hr hin hb hE hv hc hT hl hq hrd h64 hG h6
    go_enter Tryz.func33, Tryz.ntmps33
    go_wp2_with fail
    refine (HC.out).mono ?_
    rintro r w4 ⟨a4, cap4, er4, rfl, h4, her4, hb4⟩
    have HB4 := Lib.hid (HB.out.trans (hb4.mono HB.out.size))
    have HER := Lib.hid her4
    obtain ⟨uu, yy, rfl⟩ : ∃ uu yy, er4 = .iface uu yy := by
      rcases her4 with ⟨h9, _⟩ | ⟨_, h9⟩
      · cases h9
      · exact h9.iface
    clear h4 her4 hb4 c0 c1 c2
    go_wp2
    go_ret2
    exact ⟨none, 0, _, by rw [HV.out]; rfl, by rw [HV.out]; exact ents_nil _ _ _, by rw [HV.out]; exact HER.out, by first | exact HB4.out | (rw [hN]; exact HB4.out) | (rw [← hN]; exact HB4.out)⟩
  · rw [show ans14 x = (0, x) from if_neg h6] at HC
    have HGG := Lib.hid (hG h6)
    have HTT := Lib.hid hT
    have HLL := Lib.hid hl
    have HQ := Lib.hid hq
    have HRD := Lib.hid hrd
    have HVV := Lib.hid hv
    clear hg h hu hok hp hr hin hb hE hv hc hT hl hq hrd h64 hG h6
    go_enter Tryz.func33, Tryz.ntmps33
    go_wp2_with fail
    refine (HC.out).mono ?_
    rintro r w3 ⟨a5, cap5, er5, rfl, h5, her5, hb5⟩
    obtain rfl : er5 = .nilIface := by
      rcases her5 with ⟨_, h9⟩ | ⟨h9, _⟩
      · exact h9
      · exact absurd rfl h9
    have HB3 := Lib.hid (HB.out.trans (hb5.mono HB.out.size))
    have hE3 := HEO.out.below hb5
    clear c0 c1 c2
    obtain ⟨c0, c1, c2, -, -⟩ : w3.cell? ⟨N, 0, none⟩ = some (.int .i64 6) ∧ w3.cell? ⟨N, 1, none⟩ = some (.string p) ∧ w3.cell? ⟨N, 2, none⟩ = some (.string q) ∧ w3.cell? ⟨N, 3, none⟩ = some (.int .i64 n) ∧ w3.cell? ⟨N, 4, none⟩ = some (.string s) := hE3.cells
    have HCP := Lib.hid (copied14 R x c a5 a3 cap5 cap3 q d w3 h5 (RowN.below HCC.out hb5) HTT.out HLL.out HQ.out HGG.out HRD.out (HG.out.below HG.out.lt hb5))
    rw [HVV.out] at HCP
    clear h5 her5 hb5 hE3
    go_wp2_with fail
    refine (HCP.out).mono ?_
    rintro r w4 ⟨a4, cap4, er4, rfl, h4, her4, hb4⟩
    have HB4 := Lib.hid (HB3.out.trans (hb4.mono HB3.out.size))
    have H4 := Lib.hid h4
    have HER := Lib.hid her4
    clear h4 her4 hb4 c0 c1 c2
    go_wp2
    go_ret2
    exact ⟨a4, cap4, er4, rfl, H4.out, HER.out, by first | exact HB4.out | (rw [hN]; exact HB4.out) | (rw [← hN]; exact HB4.out)⟩
end
theorem followed14 (R : Read11) (S : List (List Ent)) (u c : List Ent) (a a2 a3 : Option Addr) (cap cap2 cap3 : Nat) (o : Op11) (w : World) (hg : EtLaid w) (h : Stk w a cap S) (hu : Ents w a2 cap2 u) (hc : Ents w a3 cap3 c) (hok : OK14 (S ++ [u])) (hf : FewO o) (hr : rOp o) (hd : (doV (over (stk S) u) o).1 = 0) (hcc : c = (doV (over (stk S) u) o).2) :
    Calls Tryz.prog 33 #[.slice a S.length cap, .slice a2 u.length cap2, .slice a3 c.length cap3, opV o] w (Ans11 (ans14 (up14 (stk S) u o)) w) := by
  obtain ⟨hT, hU, _, hl⟩ := ok_low hok
  have ht : TreeL (over (stk S) u) := ⟨by omega, tr_over hT hU.2⟩
  obtain ⟨_, hct, hcl⟩ : (doV (over (stk S) u) o).1 = 0 ∧ TreeL (doV (over (stk S) u) o).2 ∧ (doV (over (stk S) u) o).2.length ≤ (over (stk S) u).length + 1 := (stays_do ht o).resolve_left fun h9 => h9.1 hd
  rw [← hcc] at hct hcl
  obtain ⟨k, p, q, n, s⟩ := o
  have hps : p.size ≤ 100000 := by have : p.size ≤ 100 := hf.1; omega
  have hqs : q.size ≤ 100000 := by have : q.size ≤ 100 := hf.2.1; omega
  have hd9 : 0 ≤ k ∧ k ≤ 6 := hr.1
  have : k = 0 ∨ k = 1 ∨ k = 2 ∨ k = 3 ∨ k = 4 ∨ k = 5 ∨ k = 6 := by omega
  rcases this with rfl | rfl | rfl | rfl | rfl | rfl | rfl
  · have hd' : (mkV (over (stk S) u) p 1).1 = 0 := hd
    obtain ⟨g1, g2⟩ := cr_parts hT hU (by omega) hd'
    exact fol14_0 S u c a a2 a3 cap cap2 cap3 p q n s w R _ hg hu hc hct (by omega) hps g1 (by rw [hcc]; exact g2)
  · have hd' : (mkV (over (stk S) u) p 2).1 = 0 := hd
    obtain ⟨g1, g2⟩ := mk_parts hT hU (by omega) hd'
    have := fol14_1 S u c a a2 a3 cap cap2 cap3 p q n s w hu hU g1
    rw [g2] at this
    exact this
  · have hd' : (wrV (over (stk S) u) p n s).1 = 0 := hd
    obtain ⟨d, g1, g2, g3⟩ := wr_parts hT hU (by omega) hd'
    have := fol14_2 S u c a a2 a3 cap cap2 cap3 p q n s w R d hg hu hc hct (by omega) hps g1 (by rw [hcc]; exact g2)
    rw [g3] at this
    exact this
  · have hd' : (ctV (over (stk S) u) p n).1 = 0 := hd
    obtain ⟨d, g1, g2, g3⟩ := ct_parts hT hU (by omega) hd'
    have := fol14_3 S u c a a2 a3 cap cap2 cap3 p q n s w R d hg hu hc hct (by omega) hps g1 (by rw [hcc]; exact g2)
    rw [g3] at this
    exact this
  · have hd' : (ulV (over (stk S) u) p.data.toList).1 = 0 := hd
    obtain ⟨g1, g2, g3⟩ := ul_parts hT hU hd'
    exact fol14_4 S u c a a2 a3 cap cap2 cap3 p q n s w hg h hu hok g1 g2 g3
  · have hd' : (rmV (over (stk S) u) p.data.toList).1 = 0 := hd
    obtain ⟨g1, g2, g3⟩ := rm_parts hT hU hd'
    exact fol14_5 S u c a a2 a3 cap cap2 cap3 p q n s w hg h hu hok g1 g2 g3
  · have hd' : (rnV (over (stk S) u) p q).1 = 0 := hd
    obtain ⟨⟨g1, g2, g3⟩, g4, g5, g6⟩ := rn_parts hT hU (by omega) hd'
    exact fol14_6 S u c a a2 a3 cap cap2 cap3 p q n s w R _ hg h hu hok g1 g2 g3 hc hct (by omega) hqs (by rw [hcc]; exact g4) g5 g6
end Go.Proofs.YtjliagcalbdnhaaGreatDoor

namespace Go.Proofs.YtjliagcalbdnhaaGreatDoor
open Go.RowKit

set_option maxRecDepth 10000 in
set_option maxHeartbeats 1000000 in
/-- An op that isn't right. -/
theorem on14_bad (t : List Ent) (a : Option Addr) (cap : Nat) (o : Op11) (w : World) (hk : opOK o) (hr : ¬ rOp o) : Calls Tryz.prog 15 #[.slice a t.length cap, opV o] w (Ans11 (1, []) w) := by
  obtain ⟨W, hW⟩ : ∃ W, w.alloc (.cells #[.int .i64 o.1, .string o.2.1, .string o.2.2.1, .int .i64 o.2.2.2.1, .string o.2.2.2.2] 37) = W := ⟨_, rfl⟩
  obtain ⟨N, hN⟩ : ∃ N, w.heap.size = N := ⟨_, rfl⟩
  have hb : Below w.heap.size w W := by rw [← hW]; exact (Below.refl _ _).alloc (Nat.le_refl _) _
  have hE : EOp W N o := by rw [← hW, ← hN]; exact eop_new _ _
  obtain ⟨c0, c1, c2, c3, c4⟩ := hE.cells
  have HC := Lib.hid (right14e o W hk)
  rw [decide_eq_false hr] at HC
  have HB := Lib.hid hb
  clear hk hr hb hE
  go_enter Tryz.func15, Tryz.ntmps15
  go_wp2_with fail
  refine (HC.out).mono ?_
  rintro e w1 ⟨rfl, hb⟩
  have HB1 := Lib.hid (HB.out.trans (hb.mono HB.out.size))
  clear hb c0 c1 c2 c3 c4
  go_wp2
  go_ret2
  exact ⟨none, 0, .iface 61 (.int .i64 1), rfl, ents_nil _ _ _, er_no11 _ _ (by decide), HB1.out⟩
set_option maxRecDepth 10000 in
set_option maxHeartbeats 4000000 in
theorem on14_0 (T : Tree11) (t : List Ent) (a : Option Addr) (cap : Nat) (p q : ByteArray) (n : Int) (s : ByteArray) (w : World) (hg : EtLaid w) (h : Ents w a cap t) (ht : TreeL t) (hl : t.length ≤ 900) (hf : FewO (0, p, q, n, s)) (hk : opOK (0, p, q, n, s)) (hr : rOp (0, p, q, n, s)) :
    Calls Tryz.prog 15 #[.slice a t.length cap, opV (0, p, q, n, s)] w (Ans11 (mkV t p 1) w) := by
  obtain ⟨W, hW⟩ : ∃ W, w.alloc (.cells #[.int .i64 0, .string p, .string q, .int .i64 n, .string s] 37) = W := ⟨_, rfl⟩
  obtain ⟨N, hN⟩ : ∃ N, w.heap.size = N := ⟨_, rfl⟩
  have hb : Below w.heap.size w W := by rw [← hW]; exact (Below.refl _ _).alloc (Nat.le_refl _) _
  have hE : EOp W N (0, p, q, n, s) := by rw [← hW, ← hN]; exact eop_new _ (0, p, q, n, s)
  obtain ⟨c0, c1, c2, c3, c4⟩ : W.cell? ⟨N, 0, none⟩ = some (.int .i64 0) ∧ W.cell? ⟨N, 1, none⟩ = some (.string p) ∧ W.cell? ⟨N, 2, none⟩ = some (.string q) ∧ W.cell? ⟨N, 3, none⟩ = some (.int .i64 n) ∧ W.cell? ⟨N, 4, none⟩ = some (.string s) := hE.cells
  have HE := Lib.hid hE
  have HC := Lib.hid (right14e (0, p, q, n, s) W hk)
  rw [decide_eq_true hr] at HC
  have HB := Lib.hid hb
  obtain ⟨r, hr9⟩ : ∃ r, mkV t p 1 = r := ⟨_, rfl⟩
  rw [hr9]
  have HF : Hid (∀ X, Below w.heap.size w X → Calls Tryz.prog 63 #[.slice a t.length cap, .agg #[.int .i64 0, .string p, .string q, .int .i64 n, .string s]] X (Ans11 r X)) := fun X hX => by
    rw [← hr9]
    exact deed14_1 T t a cap (0, p, q, n, s) X (hg.below hg.lt hX) (RowN.below h hX) ht hl hf hk
  have hfld := field14
  clear hg h ht hl hf hk hr hb hE hr9
  go_enter Tryz.func15, Tryz.ntmps15
  go_wp2_with fail
  refine (HC.out).mono ?_
  rintro e w1 ⟨rfl, hb⟩
  clear c0 c1 c2 c3 c4
  have HE1 := Lib.hid (HE.out.below hb)
  have HB1 := Lib.hid (HB.out.trans (hb.mono HB.out.size))
  clear hb
  obtain ⟨c0, c1, c2, c3, c4⟩ : w1.cell? ⟨N, 0, none⟩ = some (.int .i64 0) ∧ w1.cell? ⟨N, 1, none⟩ = some (.string p) ∧ w1.cell? ⟨N, 2, none⟩ = some (.string q) ∧ w1.cell? ⟨N, 3, none⟩ = some (.int .i64 n) ∧ w1.cell? ⟨N, 4, none⟩ = some (.string s) := HE1.out.cells
  have HKS : Hid (∀ X, Below w1.heap.size w1 X → X.cell? ⟨N, 0, none⟩ = some (.int .i64 0) ∧ X.cell? ⟨N, 1, none⟩ = some (.string p) ∧ X.cell? ⟨N, 2, none⟩ = some (.string q) ∧ X.cell? ⟨N, 3, none⟩ = some (.int .i64 n) ∧ X.cell? ⟨N, 4, none⟩ = some (.string s)) := fun X hX => (HE1.out.below hX).cells
  have HDD : Hid (∀ X, Below w1.heap.size w1 X → Calls Tryz.prog 35 #[] X fun e w' => ∃ b, e = .returned (.map (some b)) ∧ (∀ Y, Below w'.heap.size w' Y → (Instr.lookup 67 (.map (some b)) (.int .i64 0) false).run Tryz.prog Y = .ok (.agg #[.func (.func 63) #[] #[]]) Y) ∧ Below w1.heap.size w1 w') := fun X hX => by
    refine (deeds14 X).mono ?_
    rintro e w' ⟨b, rfl, _, hm, hb⟩
    exact ⟨b, rfl, fun Y hY => ((hm.below hY hm.lt).look Tryz.underlying3 Tryz.underlying67 (zero14 Y) (i := 0) (by decide)).1, hX.trans (hb.mono hX.size)⟩
  have HFD : Hid (∀ X, Below w1.heap.size w1 X → Calls Tryz.prog 63 #[.slice a t.length cap, .agg #[.int .i64 0, .string p, .string q, .int .i64 n, .string s]] X fun e w' => ∃ a' cap' er, e = .returned (.tuple #[.slice a' r.2.length cap', er]) ∧ Ents w' a' cap' r.2 ∧ Er w' r.1 er ∧ Below w1.heap.size w1 w') := fun X hX => by
    refine (HF.out X (HB1.out.trans (hX.mono HB1.out.size))).mono ?_
    rintro e w' ⟨a', cap', er, rfl, h1, h2, h3⟩
    exact ⟨a', cap', er, rfl, h1, h2, hX.trans (h3.mono hX.size)⟩
  go_wp2_with fail
  go_region_held3 (fun X => X.cell? ⟨N, 0, none⟩ = some (.int .i64 0) ∧ X.cell? ⟨N, 1, none⟩ = some (.string p) ∧ X.cell? ⟨N, 2, none⟩ = some (.string q) ∧ X.cell? ⟨N, 3, none⟩ = some (.int .i64 n) ∧ X.cell? ⟨N, 4, none⟩ = some (.string s))
    ((with_reducible refine HKS.out _ ?_; (first | with_reducible assumption | with_reducible exact Below.refl _ _ | with_reducible exact (Below.refl _ _).drew | (with_reducible refine Below.drew ?_; with_reducible assumption))))
    (first
      | (go_at_call 35; with_reducible refine (HDD.out _ ?_).mono ?_; (focus ((first | with_reducible assumption | with_reducible exact Below.refl _ _ | with_reducible exact (Below.refl _ _).drew | (with_reducible refine Below.drew ?_; with_reducible assumption)))); rintro e w3 ⟨b3, rfl, hl3, hB3⟩; have l1 := hl3 w3 (Below.refl _ _); have l2 := hl3 w3.drew (Below.refl _ _).drew; clear hl3)
      | (go_at_call 63; with_reducible refine (HFD.out _ ?_).mono ?_; (focus ((first | with_reducible assumption | with_reducible exact Below.refl _ _ | with_reducible exact (Below.refl _ _).drew | (with_reducible refine Below.drew ?_; with_reducible assumption)))); rintro e w4 ⟨a4, cap4, er4, rfl, h4, her4, hB4⟩))
  all_goals
    have HB9 := Lib.hid (HB1.out.trans (hB4.mono HB1.out.size))
    have H4 := Lib.hid h4
    have HER := Lib.hid her4
    clear h4 her4 hB4
    go_wp2
    go_ret2
    exact ⟨a4, cap4, er4, rfl, H4.out, HER.out, HB9.out⟩
set_option maxRecDepth 10000 in
set_option maxHeartbeats 4000000 in
theorem on14_1 (T : Tree11) (t : List Ent) (a : Option Addr) (cap : Nat) (p q : ByteArray) (n : Int) (s : ByteArray) (w : World) (hg : EtLaid w) (h : Ents w a cap t) (ht : TreeL t) (hl : t.length ≤ 900) (hf : FewO (1, p, q, n, s)) (hk : opOK (1, p, q, n, s)) (hr : rOp (1, p, q, n, s)) :
    Calls Tryz.prog 15 #[.slice a t.length cap, opV (1, p, q, n, s)] w (Ans11 (mkV t p 2) w) := by
  obtain ⟨W, hW⟩ : ∃ W, w.alloc (.cells #[.int .i64 1, .string p, .string q, .int .i64 n, .string s] 37) = W := ⟨_, rfl⟩
  obtain ⟨N, hN⟩ : ∃ N, w.heap.size = N := ⟨_, rfl⟩
  have hb : Below w.heap.size w W := by rw [← hW]; exact (Below.refl _ _).alloc (Nat.le_refl _) _
  have hE : EOp W N (1, p, q, n, s) := by rw [← hW, ← hN]; exact eop_new _ (1, p, q, n, s)
  obtain ⟨c0, c1, c2, c3, c4⟩ : W.cell? ⟨N, 0, none⟩ = some (.int .i64 1) ∧ W.cell? ⟨N, 1, none⟩ = some (.string p) ∧ W.cell? ⟨N, 2, none⟩ = some (.string q) ∧ W.cell? ⟨N, 3, none⟩ = some (.int .i64 n) ∧ W.cell? ⟨N, 4, none⟩ = some (.string s) := hE.cells
  have HE := Lib.hid hE
  have HC := Lib.hid (right14e (1, p, q, n, s) W hk)
  rw [decide_eq_true hr] at HC
  have HB := Lib.hid hb
  obtain ⟨r, hr9⟩ : ∃ r, mkV t p 2 = r := ⟨_, rfl⟩
  rw [hr9]
  have HF : Hid (∀ X, Below w.heap.size w X → Calls Tryz.prog 65 #[.slice a t.length cap, .agg #[.int .i64 1, .string p, .string q, .int .i64 n, .string s]] X (Ans11 r X)) := fun X hX => by
    rw [← hr9]
    exact deed14_2 T t a cap (1, p, q, n, s) X (hg.below hg.lt hX) (RowN.below h hX) ht hl hf hk
  have hfld := field14
  clear hg h ht hl hf hk hr hb hE hr9
  go_enter Tryz.func15, Tryz.ntmps15
  go_wp2_with fail
  refine (HC.out).mono ?_
  rintro e w1 ⟨rfl, hb⟩
  clear c0 c1 c2 c3 c4
  have HE1 := Lib.hid (HE.out.below hb)
  have HB1 := Lib.hid (HB.out.trans (hb.mono HB.out.size))
  clear hb
  obtain ⟨c0, c1, c2, c3, c4⟩ : w1.cell? ⟨N, 0, none⟩ = some (.int .i64 1) ∧ w1.cell? ⟨N, 1, none⟩ = some (.string p) ∧ w1.cell? ⟨N, 2, none⟩ = some (.string q) ∧ w1.cell? ⟨N, 3, none⟩ = some (.int .i64 n) ∧ w1.cell? ⟨N, 4, none⟩ = some (.string s) := HE1.out.cells
  have HKS : Hid (∀ X, Below w1.heap.size w1 X → X.cell? ⟨N, 0, none⟩ = some (.int .i64 1) ∧ X.cell? ⟨N, 1, none⟩ = some (.string p) ∧ X.cell? ⟨N, 2, none⟩ = some (.string q) ∧ X.cell? ⟨N, 3, none⟩ = some (.int .i64 n) ∧ X.cell? ⟨N, 4, none⟩ = some (.string s)) := fun X hX => (HE1.out.below hX).cells
  have HDD : Hid (∀ X, Below w1.heap.size w1 X → Calls Tryz.prog 35 #[] X fun e w' => ∃ b, e = .returned (.map (some b)) ∧ (∀ Y, Below w'.heap.size w' Y → (Instr.lookup 67 (.map (some b)) (.int .i64 1) false).run Tryz.prog Y = .ok (.agg #[.func (.func 65) #[] #[]]) Y) ∧ Below w1.heap.size w1 w') := fun X hX => by
    refine (deeds14 X).mono ?_
    rintro e w' ⟨b, rfl, _, hm, hb⟩
    exact ⟨b, rfl, fun Y hY => ((hm.below hY hm.lt).look Tryz.underlying3 Tryz.underlying67 (zero14 Y) (i := 1) (by decide)).1, hX.trans (hb.mono hX.size)⟩
  have HFD : Hid (∀ X, Below w1.heap.size w1 X → Calls Tryz.prog 65 #[.slice a t.length cap, .agg #[.int .i64 1, .string p, .string q, .int .i64 n, .string s]] X fun e w' => ∃ a' cap' er, e = .returned (.tuple #[.slice a' r.2.length cap', er]) ∧ Ents w' a' cap' r.2 ∧ Er w' r.1 er ∧ Below w1.heap.size w1 w') := fun X hX => by
    refine (HF.out X (HB1.out.trans (hX.mono HB1.out.size))).mono ?_
    rintro e w' ⟨a', cap', er, rfl, h1, h2, h3⟩
    exact ⟨a', cap', er, rfl, h1, h2, hX.trans (h3.mono hX.size)⟩
  go_wp2_with fail
  go_region_held3 (fun X => X.cell? ⟨N, 0, none⟩ = some (.int .i64 1) ∧ X.cell? ⟨N, 1, none⟩ = some (.string p) ∧ X.cell? ⟨N, 2, none⟩ = some (.string q) ∧ X.cell? ⟨N, 3, none⟩ = some (.int .i64 n) ∧ X.cell? ⟨N, 4, none⟩ = some (.string s))
    ((with_reducible refine HKS.out _ ?_; (first | with_reducible assumption | with_reducible exact Below.refl _ _ | with_reducible exact (Below.refl _ _).drew | (with_reducible refine Below.drew ?_; with_reducible assumption))))
    (first
      | (go_at_call 35; with_reducible refine (HDD.out _ ?_).mono ?_; (focus ((first | with_reducible assumption | with_reducible exact Below.refl _ _ | with_reducible exact (Below.refl _ _).drew | (with_reducible refine Below.drew ?_; with_reducible assumption)))); rintro e w3 ⟨b3, rfl, hl3, hB3⟩; have l1 := hl3 w3 (Below.refl _ _); have l2 := hl3 w3.drew (Below.refl _ _).drew; clear hl3)
      | (go_at_call 65; with_reducible refine (HFD.out _ ?_).mono ?_; (focus ((first | with_reducible assumption | with_reducible exact Below.refl _ _ | with_reducible exact (Below.refl _ _).drew | (with_reducible refine Below.drew ?_; with_reducible assumption)))); rintro e w4 ⟨a4, cap4, er4, rfl, h4, her4, hB4⟩))
  all_goals
    have HB9 := Lib.hid (HB1.out.trans (hB4.mono HB1.out.size))
    have H4 := Lib.hid h4
    have HER := Lib.hid her4
    clear h4 her4 hB4
    go_wp2
    go_ret2
    exact ⟨a4, cap4, er4, rfl, H4.out, HER.out, HB9.out⟩
set_option maxRecDepth 10000 in
set_option maxHeartbeats 4000000 in
theorem on14_2 (T : Tree11) (t : List Ent) (a : Option Addr) (cap : Nat) (p q : ByteArray) (n : Int) (s : ByteArray) (w : World) (hg : EtLaid w) (h : Ents w a cap t) (ht : TreeL t) (hl : t.length ≤ 900) (hf : FewO (2, p, q, n, s)) (hk : opOK (2, p, q, n, s)) (hr : rOp (2, p, q, n, s)) :
    Calls Tryz.prog 15 #[.slice a t.length cap, opV (2, p, q, n, s)] w (Ans11 (wrV t p n s) w) := by
  obtain ⟨W, hW⟩ : ∃ W, w.alloc (.cells #[.int .i64 2, .string p, .string q, .int .i64 n, .string s] 37) = W := ⟨_, rfl⟩
  obtain ⟨N, hN⟩ : ∃ N, w.heap.size = N := ⟨_, rfl⟩
  have hb : Below w.heap.size w W := by rw [← hW]; exact (Below.refl _ _).alloc (Nat.le_refl _) _
  have hE : EOp W N (2, p, q, n, s) := by rw [← hW, ← hN]; exact eop_new _ (2, p, q, n, s)
  obtain ⟨c0, c1, c2, c3, c4⟩ : W.cell? ⟨N, 0, none⟩ = some (.int .i64 2) ∧ W.cell? ⟨N, 1, none⟩ = some (.string p) ∧ W.cell? ⟨N, 2, none⟩ = some (.string q) ∧ W.cell? ⟨N, 3, none⟩ = some (.int .i64 n) ∧ W.cell? ⟨N, 4, none⟩ = some (.string s) := hE.cells
  have HE := Lib.hid hE
  have HC := Lib.hid (right14e (2, p, q, n, s) W hk)
  rw [decide_eq_true hr] at HC
  have HB := Lib.hid hb
  obtain ⟨r, hr9⟩ : ∃ r, wrV t p n s = r := ⟨_, rfl⟩
  rw [hr9]
  have HF : Hid (∀ X, Below w.heap.size w X → Calls Tryz.prog 67 #[.slice a t.length cap, .agg #[.int .i64 2, .string p, .string q, .int .i64 n, .string s]] X (Ans11 r X)) := fun X hX => by
    rw [← hr9]
    exact deed14_3 T t a cap (2, p, q, n, s) X (hg.below hg.lt hX) (RowN.below h hX) ht hl hf hk
  have hfld := field14
  clear hg h ht hl hf hk hr hb hE hr9
  go_enter Tryz.func15, Tryz.ntmps15
  go_wp2_with fail
  refine (HC.out).mono ?_
  rintro e w1 ⟨rfl, hb⟩
  clear c0 c1 c2 c3 c4
  have HE1 := Lib.hid (HE.out.below hb)
  have HB1 := Lib.hid (HB.out.trans (hb.mono HB.out.size))
  clear hb
  obtain ⟨c0, c1, c2, c3, c4⟩ : w1.cell? ⟨N, 0, none⟩ = some (.int .i64 2) ∧ w1.cell? ⟨N, 1, none⟩ = some (.string p) ∧ w1.cell? ⟨N, 2, none⟩ = some (.string q) ∧ w1.cell? ⟨N, 3, none⟩ = some (.int .i64 n) ∧ w1.cell? ⟨N, 4, none⟩ = some (.string s) := HE1.out.cells
  have HKS : Hid (∀ X, Below w1.heap.size w1 X → X.cell? ⟨N, 0, none⟩ = some (.int .i64 2) ∧ X.cell? ⟨N, 1, none⟩ = some (.string p) ∧ X.cell? ⟨N, 2, none⟩ = some (.string q) ∧ X.cell? ⟨N, 3, none⟩ = some (.int .i64 n) ∧ X.cell? ⟨N, 4, none⟩ = some (.string s)) := fun X hX => (HE1.out.below hX).cells
  have HDD : Hid (∀ X, Below w1.heap.size w1 X → Calls Tryz.prog 35 #[] X fun e w' => ∃ b, e = .returned (.map (some b)) ∧ (∀ Y, Below w'.heap.size w' Y → (Instr.lookup 67 (.map (some b)) (.int .i64 2) false).run Tryz.prog Y = .ok (.agg #[.func (.func 67) #[] #[]]) Y) ∧ Below w1.heap.size w1 w') := fun X hX => by
    refine (deeds14 X).mono ?_
    rintro e w' ⟨b, rfl, _, hm, hb⟩
    exact ⟨b, rfl, fun Y hY => ((hm.below hY hm.lt).look Tryz.underlying3 Tryz.underlying67 (zero14 Y) (i := 2) (by decide)).1, hX.trans (hb.mono hX.size)⟩
  have HFD : Hid (∀ X, Below w1.heap.size w1 X → Calls Tryz.prog 67 #[.slice a t.length cap, .agg #[.int .i64 2, .string p, .string q, .int .i64 n, .string s]] X fun e w' => ∃ a' cap' er, e = .returned (.tuple #[.slice a' r.2.length cap', er]) ∧ Ents w' a' cap' r.2 ∧ Er w' r.1 er ∧ Below w1.heap.size w1 w') := fun X hX => by
    refine (HF.out X (HB1.out.trans (hX.mono HB1.out.size))).mono ?_
    rintro e w' ⟨a', cap', er, rfl, h1, h2, h3⟩
    exact ⟨a', cap', er, rfl, h1, h2, hX.trans (h3.mono hX.size)⟩
  go_wp2_with fail
  go_region_held3 (fun X => X.cell? ⟨N, 0, none⟩ = some (.int .i64 2) ∧ X.cell? ⟨N, 1, none⟩ = some (.string p) ∧ X.cell? ⟨N, 2, none⟩ = some (.string q) ∧ X.cell? ⟨N, 3, none⟩ = some (.int .i64 n) ∧ X.cell? ⟨N, 4, none⟩ = some (.string s))
    ((with_reducible refine HKS.out _ ?_; (first | with_reducible assumption | with_reducible exact Below.refl _ _ | with_reducible exact (Below.refl _ _).drew | (with_reducible refine Below.drew ?_; with_reducible assumption))))
    (first
      | (go_at_call 35; with_reducible refine (HDD.out _ ?_).mono ?_; (focus ((first | with_reducible assumption | with_reducible exact Below.refl _ _ | with_reducible exact (Below.refl _ _).drew | (with_reducible refine Below.drew ?_; with_reducible assumption)))); rintro e w3 ⟨b3, rfl, hl3, hB3⟩; have l1 := hl3 w3 (Below.refl _ _); have l2 := hl3 w3.drew (Below.refl _ _).drew; clear hl3)
      | (go_at_call 67; with_reducible refine (HFD.out _ ?_).mono ?_; (focus ((first | with_reducible assumption | with_reducible exact Below.refl _ _ | with_reducible exact (Below.refl _ _).drew | (with_reducible refine Below.drew ?_; with_reducible assumption)))); rintro e w4 ⟨a4, cap4, er4, rfl, h4, her4, hB4⟩))
  all_goals
    have HB9 := Lib.hid (HB1.out.trans (hB4.mono HB1.out.size))
    have H4 := Lib.hid h4
    have HER := Lib.hid her4
    clear h4 her4 hB4
    go_wp2
    go_ret2
    exact ⟨a4, cap4, er4, rfl, H4.out, HER.out, HB9.out⟩
set_option maxRecDepth 10000 in
set_option maxHeartbeats 4000000 in
theorem on14_3 (T : Tree11) (t : List Ent) (a : Option Addr) (cap : Nat) (p q : ByteArray) (n : Int) (s : ByteArray) (w : World) (hg : EtLaid w) (h : Ents w a cap t) (ht : TreeL t) (hl : t.length ≤ 900) (hf : FewO (3, p, q, n, s)) (hk : opOK (3, p, q, n, s)) (hr : rOp (3, p, q, n, s)) :
    Calls Tryz.prog 15 #[.slice a t.length cap, opV (3, p, q, n, s)] w (Ans11 (ctV t p n) w) := by
  obtain ⟨W, hW⟩ : ∃ W, w.alloc (.cells #[.int .i64 3, .string p, .string q, .int .i64 n, .string s] 37) = W := ⟨_, rfl⟩
  obtain ⟨N, hN⟩ : ∃ N, w.heap.size = N := ⟨_, rfl⟩
  have hb : Below w.heap.size w W := by rw [← hW]; exact (Below.refl _ _).alloc (Nat.le_refl _) _
  have hE : EOp W N (3, p, q, n, s) := by rw [← hW, ← hN]; exact eop_new _ (3, p, q, n, s)
  obtain ⟨c0, c1, c2, c3, c4⟩ : W.cell? ⟨N, 0, none⟩ = some (.int .i64 3) ∧ W.cell? ⟨N, 1, none⟩ = some (.string p) ∧ W.cell? ⟨N, 2, none⟩ = some (.string q) ∧ W.cell? ⟨N, 3, none⟩ = some (.int .i64 n) ∧ W.cell? ⟨N, 4, none⟩ = some (.string s) := hE.cells
  have HE := Lib.hid hE
  have HC := Lib.hid (right14e (3, p, q, n, s) W hk)
  rw [decide_eq_true hr] at HC
  have HB := Lib.hid hb
  obtain ⟨r, hr9⟩ : ∃ r, ctV t p n = r := ⟨_, rfl⟩
  rw [hr9]
  have HF : Hid (∀ X, Below w.heap.size w X → Calls Tryz.prog 68 #[.slice a t.length cap, .agg #[.int .i64 3, .string p, .string q, .int .i64 n, .string s]] X (Ans11 r X)) := fun X hX => by
    rw [← hr9]
    exact deed14_4 T t a cap (3, p, q, n, s) X (hg.below hg.lt hX) (RowN.below h hX) ht hl hf hk
  have hfld := field14
  clear hg h ht hl hf hk hr hb hE hr9
  go_enter Tryz.func15, Tryz.ntmps15
  go_wp2_with fail
  refine (HC.out).mono ?_
  rintro e w1 ⟨rfl, hb⟩
  clear c0 c1 c2 c3 c4
  have HE1 := Lib.hid (HE.out.below hb)
  have HB1 := Lib.hid (HB.out.trans (hb.mono HB.out.size))
  clear hb
  obtain ⟨c0, c1, c2, c3, c4⟩ : w1.cell? ⟨N, 0, none⟩ = some (.int .i64 3) ∧ w1.cell? ⟨N, 1, none⟩ = some (.string p) ∧ w1.cell? ⟨N, 2, none⟩ = some (.string q) ∧ w1.cell? ⟨N, 3, none⟩ = some (.int .i64 n) ∧ w1.cell? ⟨N, 4, none⟩ = some (.string s) := HE1.out.cells
  have HKS : Hid (∀ X, Below w1.heap.size w1 X → X.cell? ⟨N, 0, none⟩ = some (.int .i64 3) ∧ X.cell? ⟨N, 1, none⟩ = some (.string p) ∧ X.cell? ⟨N, 2, none⟩ = some (.string q) ∧ X.cell? ⟨N, 3, none⟩ = some (.int .i64 n) ∧ X.cell? ⟨N, 4, none⟩ = some (.string s)) := fun X hX => (HE1.out.below hX).cells
  have HDD : Hid (∀ X, Below w1.heap.size w1 X → Calls Tryz.prog 35 #[] X fun e w' => ∃ b, e = .returned (.map (some b)) ∧ (∀ Y, Below w'.heap.size w' Y → (Instr.lookup 67 (.map (some b)) (.int .i64 3) false).run Tryz.prog Y = .ok (.agg #[.func (.func 68) #[] #[]]) Y) ∧ Below w1.heap.size w1 w') := fun X hX => by
    refine (deeds14 X).mono ?_
    rintro e w' ⟨b, rfl, _, hm, hb⟩
    exact ⟨b, rfl, fun Y hY => ((hm.below hY hm.lt).look Tryz.underlying3 Tryz.underlying67 (zero14 Y) (i := 3) (by decide)).1, hX.trans (hb.mono hX.size)⟩
  have HFD : Hid (∀ X, Below w1.heap.size w1 X → Calls Tryz.prog 68 #[.slice a t.length cap, .agg #[.int .i64 3, .string p, .string q, .int .i64 n, .string s]] X fun e w' => ∃ a' cap' er, e = .returned (.tuple #[.slice a' r.2.length cap', er]) ∧ Ents w' a' cap' r.2 ∧ Er w' r.1 er ∧ Below w1.heap.size w1 w') := fun X hX => by
    refine (HF.out X (HB1.out.trans (hX.mono HB1.out.size))).mono ?_
    rintro e w' ⟨a', cap', er, rfl, h1, h2, h3⟩
    exact ⟨a', cap', er, rfl, h1, h2, hX.trans (h3.mono hX.size)⟩
  go_wp2_with fail
  go_region_held3 (fun X => X.cell? ⟨N, 0, none⟩ = some (.int .i64 3) ∧ X.cell? ⟨N, 1, none⟩ = some (.string p) ∧ X.cell? ⟨N, 2, none⟩ = some (.string q) ∧ X.cell? ⟨N, 3, none⟩ = some (.int .i64 n) ∧ X.cell? ⟨N, 4, none⟩ = some (.string s))
    ((with_reducible refine HKS.out _ ?_; (first | with_reducible assumption | with_reducible exact Below.refl _ _ | with_reducible exact (Below.refl _ _).drew | (with_reducible refine Below.drew ?_; with_reducible assumption))))
    (first
      | (go_at_call 35; with_reducible refine (HDD.out _ ?_).mono ?_; (focus ((first | with_reducible assumption | with_reducible exact Below.refl _ _ | with_reducible exact (Below.refl _ _).drew | (with_reducible refine Below.drew ?_; with_reducible assumption)))); rintro e w3 ⟨b3, rfl, hl3, hB3⟩; have l1 := hl3 w3 (Below.refl _ _); have l2 := hl3 w3.drew (Below.refl _ _).drew; clear hl3)
      | (go_at_call 68; with_reducible refine (HFD.out _ ?_).mono ?_; (focus ((first | with_reducible assumption | with_reducible exact Below.refl _ _ | with_reducible exact (Below.refl _ _).drew | (with_reducible refine Below.drew ?_; with_reducible assumption)))); rintro e w4 ⟨a4, cap4, er4, rfl, h4, her4, hB4⟩))
  all_goals
    have HB9 := Lib.hid (HB1.out.trans (hB4.mono HB1.out.size))
    have H4 := Lib.hid h4
    have HER := Lib.hid her4
    clear h4 her4 hB4
    go_wp2
    go_ret2
    exact ⟨a4, cap4, er4, rfl, H4.out, HER.out, HB9.out⟩
set_option maxRecDepth 10000 in
set_option maxHeartbeats 4000000 in
theorem on14_4 (T : Tree11) (t : List Ent) (a : Option Addr) (cap : Nat) (p q : ByteArray) (n : Int) (s : ByteArray) (w : World) (hg : EtLaid w) (h : Ents w a cap t) (ht : TreeL t) (hl : t.length ≤ 900) (hf : FewO (4, p, q, n, s)) (hk : opOK (4, p, q, n, s)) (hr : rOp (4, p, q, n, s)) :
    Calls Tryz.prog 15 #[.slice a t.length cap, opV (4, p, q, n, s)] w (Ans11 (ulV t p.data.toList) w) := by
  obtain ⟨W, hW⟩ : ∃ W, w.alloc (.cells #[.int .i64 4, .string p, .string q, .int .i64 n, .string s] 37) = W := ⟨_, rfl⟩
  obtain ⟨N, hN⟩ : ∃ N, w.heap.size = N := ⟨_, rfl⟩
  have hb : Below w.heap.size w W := by rw [← hW]; exact (Below.refl _ _).alloc (Nat.le_refl _) _
  have hE : EOp W N (4, p, q, n, s) := by rw [← hW, ← hN]; exact eop_new _ (4, p, q, n, s)
  obtain ⟨c0, c1, c2, c3, c4⟩ : W.cell? ⟨N, 0, none⟩ = some (.int .i64 4) ∧ W.cell? ⟨N, 1, none⟩ = some (.string p) ∧ W.cell? ⟨N, 2, none⟩ = some (.string q) ∧ W.cell? ⟨N, 3, none⟩ = some (.int .i64 n) ∧ W.cell? ⟨N, 4, none⟩ = some (.string s) := hE.cells
  have HE := Lib.hid hE
  have HC := Lib.hid (right14e (4, p, q, n, s) W hk)
  rw [decide_eq_true hr] at HC
  have HB := Lib.hid hb
  obtain ⟨r, hr9⟩ : ∃ r, ulV t p.data.toList = r := ⟨_, rfl⟩
  rw [hr9]
  have HF : Hid (∀ X, Below w.heap.size w X → Calls Tryz.prog 70 #[.slice a t.length cap, .agg #[.int .i64 4, .string p, .string q, .int .i64 n, .string s]] X (Ans11 r X)) := fun X hX => by
    rw [← hr9]
    exact deed14_5 T t a cap (4, p, q, n, s) X (hg.below hg.lt hX) (RowN.below h hX) ht hl hf hk
  have hfld := field14
  clear hg h ht hl hf hk hr hb hE hr9
  go_enter Tryz.func15, Tryz.ntmps15
  go_wp2_with fail
  refine (HC.out).mono ?_
  rintro e w1 ⟨rfl, hb⟩
  clear c0 c1 c2 c3 c4
  have HE1 := Lib.hid (HE.out.below hb)
  have HB1 := Lib.hid (HB.out.trans (hb.mono HB.out.size))
  clear hb
  obtain ⟨c0, c1, c2, c3, c4⟩ : w1.cell? ⟨N, 0, none⟩ = some (.int .i64 4) ∧ w1.cell? ⟨N, 1, none⟩ = some (.string p) ∧ w1.cell? ⟨N, 2, none⟩ = some (.string q) ∧ w1.cell? ⟨N, 3, none⟩ = some (.int .i64 n) ∧ w1.cell? ⟨N, 4, none⟩ = some (.string s) := HE1.out.cells
  have HKS : Hid (∀ X, Below w1.heap.size w1 X → X.cell? ⟨N, 0, none⟩ = some (.int .i64 4) ∧ X.cell? ⟨N, 1, none⟩ = some (.string p) ∧ X.cell? ⟨N, 2, none⟩ = some (.string q) ∧ X.cell? ⟨N, 3, none⟩ = some (.int .i64 n) ∧ X.cell? ⟨N, 4, none⟩ = some (.string s)) := fun X hX => (HE1.out.below hX).cells
  have HDD : Hid (∀ X, Below w1.heap.size w1 X → Calls Tryz.prog 35 #[] X fun e w' => ∃ b, e = .returned (.map (some b)) ∧ (∀ Y, Below w'.heap.size w' Y → (Instr.lookup 67 (.map (some b)) (.int .i64 4) false).run Tryz.prog Y = .ok (.agg #[.func (.func 70) #[] #[]]) Y) ∧ Below w1.heap.size w1 w') := fun X hX => by
    refine (deeds14 X).mono ?_
    rintro e w' ⟨b, rfl, _, hm, hb⟩
    exact ⟨b, rfl, fun Y hY => ((hm.below hY hm.lt).look Tryz.underlying3 Tryz.underlying67 (zero14 Y) (i := 4) (by decide)).1, hX.trans (hb.mono hX.size)⟩
  have HFD : Hid (∀ X, Below w1.heap.size w1 X → Calls Tryz.prog 70 #[.slice a t.length cap, .agg #[.int .i64 4, .string p, .string q, .int .i64 n, .string s]] X fun e w' => ∃ a' cap' er, e = .returned (.tuple #[.slice a' r.2.length cap', er]) ∧ Ents w' a' cap' r.2 ∧ Er w' r.1 er ∧ Below w1.heap.size w1 w') := fun X hX => by
    refine (HF.out X (HB1.out.trans (hX.mono HB1.out.size))).mono ?_
    rintro e w' ⟨a', cap', er, rfl, h1, h2, h3⟩
    exact ⟨a', cap', er, rfl, h1, h2, hX.trans (h3.mono hX.size)⟩
  go_wp2_with fail
  go_region_held3 (fun X => X.cell? ⟨N, 0, none⟩ = some (.int .i64 4) ∧ X.cell? ⟨N, 1, none⟩ = some (.string p) ∧ X.cell? ⟨N, 2, none⟩ = some (.string q) ∧ X.cell? ⟨N, 3, none⟩ = some (.int .i64 n) ∧ X.cell? ⟨N, 4, none⟩ = some (.string s))
    ((with_reducible refine HKS.out _ ?_; (first | with_reducible assumption | with_reducible exact Below.refl _ _ | with_reducible exact (Below.refl _ _).drew | (with_reducible refine Below.drew ?_; with_reducible assumption))))
    (first
      | (go_at_call 35; with_reducible refine (HDD.out _ ?_).mono ?_; (focus ((first | with_reducible assumption | with_reducible exact Below.refl _ _ | with_reducible exact (Below.refl _ _).drew | (with_reducible refine Below.drew ?_; with_reducible assumption)))); rintro e w3 ⟨b3, rfl, hl3, hB3⟩; have l1 := hl3 w3 (Below.refl _ _); have l2 := hl3 w3.drew (Below.refl _ _).drew; clear hl3)
      | (go_at_call 70; with_reducible refine (HFD.out _ ?_).mono ?_; (focus ((first | with_reducible assumption | with_reducible exact Below.refl _ _ | with_reducible exact (Below.refl _ _).drew | (with_reducible refine Below.drew ?_; with_reducible assumption)))); rintro e w4 ⟨a4, cap4, er4, rfl, h4, her4, hB4⟩))
  all_goals
    have HB9 := Lib.hid (HB1.out.trans (hB4.mono HB1.out.size))
    have H4 := Lib.hid h4
    have HER := Lib.hid her4
    clear h4 her4 hB4
    go_wp2
    go_ret2
    exact ⟨a4, cap4, er4, rfl, H4.out, HER.out, HB9.out⟩
set_option maxRecDepth 10000 in
set_option maxHeartbeats 4000000 in
theorem on14_5 (T : Tree11) (t : List Ent) (a : Option Addr) (cap : Nat) (p q : ByteArray) (n : Int) (s : ByteArray) (w : World) (hg : EtLaid w) (h : Ents w a cap t) (ht : TreeL t) (hl : t.length ≤ 900) (hf : FewO (5, p, q, n, s)) (hk : opOK (5, p, q, n, s)) (hr : rOp (5, p, q, n, s)) :
    Calls Tryz.prog 15 #[.slice a t.length cap, opV (5, p, q, n, s)] w (Ans11 (rmV t p.data.toList) w) := by
  obtain ⟨W, hW⟩ : ∃ W, w.alloc (.cells #[.int .i64 5, .string p, .string q, .int .i64 n, .string s] 37) = W := ⟨_, rfl⟩
  obtain ⟨N, hN⟩ : ∃ N, w.heap.size = N := ⟨_, rfl⟩
  have hb : Below w.heap.size w W := by rw [← hW]; exact (Below.refl _ _).alloc (Nat.le_refl _) _
  have hE : EOp W N (5, p, q, n, s) := by rw [← hW, ← hN]; exact eop_new _ (5, p, q, n, s)
  obtain ⟨c0, c1, c2, c3, c4⟩ : W.cell? ⟨N, 0, none⟩ = some (.int .i64 5) ∧ W.cell? ⟨N, 1, none⟩ = some (.string p) ∧ W.cell? ⟨N, 2, none⟩ = some (.string q) ∧ W.cell? ⟨N, 3, none⟩ = some (.int .i64 n) ∧ W.cell? ⟨N, 4, none⟩ = some (.string s) := hE.cells
  have HE := Lib.hid hE
  have HC := Lib.hid (right14e (5, p, q, n, s) W hk)
  rw [decide_eq_true hr] at HC
  have HB := Lib.hid hb
  obtain ⟨r, hr9⟩ : ∃ r, rmV t p.data.toList = r := ⟨_, rfl⟩
  rw [hr9]
  have HF : Hid (∀ X, Below w.heap.size w X → Calls Tryz.prog 72 #[.slice a t.length cap, .agg #[.int .i64 5, .string p, .string q, .int .i64 n, .string s]] X (Ans11 r X)) := fun X hX => by
    rw [← hr9]
    exact deed14_6 T t a cap (5, p, q, n, s) X (hg.below hg.lt hX) (RowN.below h hX) ht hl hf hk
  have hfld := field14
  clear hg h ht hl hf hk hr hb hE hr9
  go_enter Tryz.func15, Tryz.ntmps15
  go_wp2_with fail
  refine (HC.out).mono ?_
  rintro e w1 ⟨rfl, hb⟩
  clear c0 c1 c2 c3 c4
  have HE1 := Lib.hid (HE.out.below hb)
  have HB1 := Lib.hid (HB.out.trans (hb.mono HB.out.size))
  clear hb
  obtain ⟨c0, c1, c2, c3, c4⟩ : w1.cell? ⟨N, 0, none⟩ = some (.int .i64 5) ∧ w1.cell? ⟨N, 1, none⟩ = some (.string p) ∧ w1.cell? ⟨N, 2, none⟩ = some (.string q) ∧ w1.cell? ⟨N, 3, none⟩ = some (.int .i64 n) ∧ w1.cell? ⟨N, 4, none⟩ = some (.string s) := HE1.out.cells
  have HKS : Hid (∀ X, Below w1.heap.size w1 X → X.cell? ⟨N, 0, none⟩ = some (.int .i64 5) ∧ X.cell? ⟨N, 1, none⟩ = some (.string p) ∧ X.cell? ⟨N, 2, none⟩ = some (.string q) ∧ X.cell? ⟨N, 3, none⟩ = some (.int .i64 n) ∧ X.cell? ⟨N, 4, none⟩ = some (.string s)) := fun X hX => (HE1.out.below hX).cells
  have HDD : Hid (∀ X, Below w1.heap.size w1 X → Calls Tryz.prog 35 #[] X fun e w' => ∃ b, e = .returned (.map (some b)) ∧ (∀ Y, Below w'.heap.size w' Y → (Instr.lookup 67 (.map (some b)) (.int .i64 5) false).run Tryz.prog Y = .ok (.agg #[.func (.func 72) #[] #[]]) Y) ∧ Below w1.heap.size w1 w') := fun X hX => by
    refine (deeds14 X).mono ?_
    rintro e w' ⟨b, rfl, _, hm, hb⟩
    exact ⟨b, rfl, fun Y hY => ((hm.below hY hm.lt).look Tryz.underlying3 Tryz.underlying67 (zero14 Y) (i := 5) (by decide)).1, hX.trans (hb.mono hX.size)⟩
  have HFD : Hid (∀ X, Below w1.heap.size w1 X → Calls Tryz.prog 72 #[.slice a t.length cap, .agg #[.int .i64 5, .string p, .string q, .int .i64 n, .string s]] X fun e w' => ∃ a' cap' er, e = .returned (.tuple #[.slice a' r.2.length cap', er]) ∧ Ents w' a' cap' r.2 ∧ Er w' r.1 er ∧ Below w1.heap.size w1 w') := fun X hX => by
    refine (HF.out X (HB1.out.trans (hX.mono HB1.out.size))).mono ?_
    rintro e w' ⟨a', cap', er, rfl, h1, h2, h3⟩
    exact ⟨a', cap', er, rfl, h1, h2, hX.trans (h3.mono hX.size)⟩
  go_wp2_with fail
  go_region_held3 (fun X => X.cell? ⟨N, 0, none⟩ = some (.int .i64 5) ∧ X.cell? ⟨N, 1, none⟩ = some (.string p) ∧ X.cell? ⟨N, 2, none⟩ = some (.string q) ∧ X.cell? ⟨N, 3, none⟩ = some (.int .i64 n) ∧ X.cell? ⟨N, 4, none⟩ = some (.string s))
    ((with_reducible refine HKS.out _ ?_; (first | with_reducible assumption | with_reducible exact Below.refl _ _ | with_reducible exact (Below.refl _ _).drew | (with_reducible refine Below.drew ?_; with_reducible assumption))))
    (first
      | (go_at_call 35; with_reducible refine (HDD.out _ ?_).mono ?_; (focus ((first | with_reducible assumption | with_reducible exact Below.refl _ _ | with_reducible exact (Below.refl _ _).drew | (with_reducible refine Below.drew ?_; with_reducible assumption)))); rintro e w3 ⟨b3, rfl, hl3, hB3⟩; have l1 := hl3 w3 (Below.refl _ _); have l2 := hl3 w3.drew (Below.refl _ _).drew; clear hl3)
      | (go_at_call 72; with_reducible refine (HFD.out _ ?_).mono ?_; (focus ((first | with_reducible assumption | with_reducible exact Below.refl _ _ | with_reducible exact (Below.refl _ _).drew | (with_reducible refine Below.drew ?_; with_reducible assumption)))); rintro e w4 ⟨a4, cap4, er4, rfl, h4, her4, hB4⟩))
  all_goals
    have HB9 := Lib.hid (HB1.out.trans (hB4.mono HB1.out.size))
    have H4 := Lib.hid h4
    have HER := Lib.hid her4
    clear h4 her4 hB4
    go_wp2
    go_ret2
    exact ⟨a4, cap4, er4, rfl, H4.out, HER.out, HB9.out⟩
set_option maxRecDepth 10000 in
set_option maxHeartbeats 4000000 in
theorem on14_6 (T : Tree11) (t : List Ent) (a : Option Addr) (cap : Nat) (p q : ByteArray) (n : Int) (s : ByteArray) (w : World) (hg : EtLaid w) (h : Ents w a cap t) (ht : TreeL t) (hl : t.length ≤ 900) (hf : FewO (6, p, q, n, s)) (hk : opOK (6, p, q, n, s)) (hr : rOp (6, p, q, n, s)) :
    Calls Tryz.prog 15 #[.slice a t.length cap, opV (6, p, q, n, s)] w (Ans11 (rnV t p q) w) := by
  obtain ⟨W, hW⟩ : ∃ W, w.alloc (.cells #[.int .i64 6, .string p, .string q, .int .i64 n, .string s] 37) = W := ⟨_, rfl⟩
  obtain ⟨N, hN⟩ : ∃ N, w.heap.size = N := ⟨_, rfl⟩
  have hb : Below w.heap.size w W := by rw [← hW]; exact (Below.refl _ _).alloc (Nat.le_refl _) _
  have hE : EOp W N (6, p, q, n, s) := by rw [← hW, ← hN]; exact eop_new _ (6, p, q, n, s)
  obtain ⟨c0, c1, c2, c3, c4⟩ : W.cell? ⟨N, 0, none⟩ = some (.int .i64 6) ∧ W.cell? ⟨N, 1, none⟩ = some (.string p) ∧ W.cell? ⟨N, 2, none⟩ = some (.string q) ∧ W.cell? ⟨N, 3, none⟩ = some (.int .i64 n) ∧ W.cell? ⟨N, 4, none⟩ = some (.string s) := hE.cells
  have HE := Lib.hid hE
  have HC := Lib.hid (right14e (6, p, q, n, s) W hk)
  rw [decide_eq_true hr] at HC
  have HB := Lib.hid hb
  obtain ⟨r, hr9⟩ : ∃ r, rnV t p q = r := ⟨_, rfl⟩
  rw [hr9]
  have HF : Hid (∀ X, Below w.heap.size w X → Calls Tryz.prog 74 #[.slice a t.length cap, .agg #[.int .i64 6, .string p, .string q, .int .i64 n, .string s]] X (Ans11 r X)) := fun X hX => by
    rw [← hr9]
    exact deed14_7 T t a cap (6, p, q, n, s) X (hg.below hg.lt hX) (RowN.below h hX) ht hl hf hk
  have hfld := field14
  clear hg h ht hl hf hk hr hb hE hr9
  go_enter Tryz.func15, Tryz.ntmps15
  go_wp2_with fail
  refine (HC.out).mono ?_
  rintro e w1 ⟨rfl, hb⟩
  clear c0 c1 c2 c3 c4
  have HE1 := Lib.hid (HE.out.below hb)
  have HB1 := Lib.hid (HB.out.trans (hb.mono HB.out.size))
  clear hb
  obtain ⟨c0, c1, c2, c3, c4⟩ : w1.cell? ⟨N, 0, none⟩ = some (.int .i64 6) ∧ w1.cell? ⟨N, 1, none⟩ = some (.string p) ∧ w1.cell? ⟨N, 2, none⟩ = some (.string q) ∧ w1.cell? ⟨N, 3, none⟩ = some (.int .i64 n) ∧ w1.cell? ⟨N, 4, none⟩ = some (.string s) := HE1.out.cells
  have HKS : Hid (∀ X, Below w1.heap.size w1 X → X.cell? ⟨N, 0, none⟩ = some (.int .i64 6) ∧ X.cell? ⟨N, 1, none⟩ = some (.string p) ∧ X.cell? ⟨N, 2, none⟩ = some (.string q) ∧ X.cell? ⟨N, 3, none⟩ = some (.int .i64 n) ∧ X.cell? ⟨N, 4, none⟩ = some (.string s)) := fun X hX => (HE1.out.below hX).cells
  have HDD : Hid (∀ X, Below w1.heap.size w1 X → Calls Tryz.prog 35 #[] X fun e w' => ∃ b, e = .returned (.map (some b)) ∧ (∀ Y, Below w'.heap.size w' Y → (Instr.lookup 67 (.map (some b)) (.int .i64 6) false).run Tryz.prog Y = .ok (.agg #[.func (.func 74) #[] #[]]) Y) ∧ Below w1.heap.size w1 w') := fun X hX => by
    refine (deeds14 X).mono ?_
    rintro e w' ⟨b, rfl, _, hm, hb⟩
    exact ⟨b, rfl, fun Y hY => ((hm.below hY hm.lt).look Tryz.underlying3 Tryz.underlying67 (zero14 Y) (i := 6) (by decide)).1, hX.trans (hb.mono hX.size)⟩
  have HFD : Hid (∀ X, Below w1.heap.size w1 X → Calls Tryz.prog 74 #[.slice a t.length cap, .agg #[.int .i64 6, .string p, .string q, .int .i64 n, .string s]] X fun e w' => ∃ a' cap' er, e = .returned (.tuple #[.slice a' r.2.length cap', er]) ∧ Ents w' a' cap' r.2 ∧ Er w' r.1 er ∧ Below w1.heap.size w1 w') := fun X hX => by
    refine (HF.out X (HB1.out.trans (hX.mono HB1.out.size))).mono ?_
    rintro e w' ⟨a', cap', er, rfl, h1, h2, h3⟩
    exact ⟨a', cap', er, rfl, h1, h2, hX.trans (h3.mono hX.size)⟩
  go_wp2_with fail
  go_region_held3 (fun X => X.cell? ⟨N, 0, none⟩ = some (.int .i64 6) ∧ X.cell? ⟨N, 1, none⟩ = some (.string p) ∧ X.cell? ⟨N, 2, none⟩ = some (.string q) ∧ X.cell? ⟨N, 3, none⟩ = some (.int .i64 n) ∧ X.cell? ⟨N, 4, none⟩ = some (.string s))
    ((with_reducible refine HKS.out _ ?_; (first | with_reducible assumption | with_reducible exact Below.refl _ _ | with_reducible exact (Below.refl _ _).drew | (with_reducible refine Below.drew ?_; with_reducible assumption))))
    (first
      | (go_at_call 35; with_reducible refine (HDD.out _ ?_).mono ?_; (focus ((first | with_reducible assumption | with_reducible exact Below.refl _ _ | with_reducible exact (Below.refl _ _).drew | (with_reducible refine Below.drew ?_; with_reducible assumption)))); rintro e w3 ⟨b3, rfl, hl3, hB3⟩; have l1 := hl3 w3 (Below.refl _ _); have l2 := hl3 w3.drew (Below.refl _ _).drew; clear hl3)
      | (go_at_call 74; with_reducible refine (HFD.out _ ?_).mono ?_; (focus ((first | with_reducible assumption | with_reducible exact Below.refl _ _ | with_reducible exact (Below.refl _ _).drew | (with_reducible refine Below.drew ?_; with_reducible assumption)))); rintro e w4 ⟨a4, cap4, er4, rfl, h4, her4, hB4⟩))
  all_goals
    have HB9 := Lib.hid (HB1.out.trans (hB4.mono HB1.out.size))
    have H4 := Lib.hid h4
    have HER := Lib.hid her4
    clear h4 her4 hB4
    go_wp2
    go_ret2
    exact ⟨a4, cap4, er4, rfl, H4.out, HER.out, HB9.out⟩
theorem on14c (T : Tree11) : On14 := fun t a cap o w hg h ht hl hf hk => by
  unfold onV
  by_cases hr : rOp o
  · rw [if_pos hr]
    obtain ⟨d, p, q, n, s⟩ := o
    have hd := hr.1
    have hd : 0 ≤ d ∧ d ≤ 6 := hd
    have : d = 0 ∨ d = 1 ∨ d = 2 ∨ d = 3 ∨ d = 4 ∨ d = 5 ∨ d = 6 := by omega
    rcases this with rfl | rfl | rfl | rfl | rfl | rfl | rfl
    · exact on14_0 T t a cap p q n s w hg h ht hl hf hk hr
    · exact on14_1 T t a cap p q n s w hg h ht hl hf hk hr
    · exact on14_2 T t a cap p q n s w hg h ht hl hf hk hr
    · exact on14_3 T t a cap p q n s w hg h ht hl hf hk hr
    · exact on14_4 T t a cap p q n s w hg h ht hl hf hk hr
    · exact on14_5 T t a cap p q n s w hg h ht hl hf hk hr
    · exact on14_6 T t a cap p q n s w hg h ht hl hf hk hr
  · rw [if_neg hr]
    exact on14_bad t a cap o w hk hr
end Go.Proofs.YtjliagcalbdnhaaGreatDoor
