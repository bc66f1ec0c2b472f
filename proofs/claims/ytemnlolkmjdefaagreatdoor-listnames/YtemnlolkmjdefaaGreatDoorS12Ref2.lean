/-
  Contracts of the document's own At and Floor of a stack (package shaleref12). Conditions: right layers in memory, at most nine; Floor: a directory lies there; texts of at most 100000 bytes.
-/
import Derived.Test.YtemnlolkmjdefaaGreatDoorS12Ref
namespace Go.Proofs.YtemnlolkmjdefaaGreatDoor
open Go.RowKit

theorem row_take12 {w : World} {a : Option Addr} {cap : Nat} {ns : List ByteArray} (h : Row w a cap ns) (i : Nat) : Row w a cap (ns.take i) := by
  obtain ⟨h1, h2⟩ := h
  refine ⟨by simp; omega, ?_⟩
  rcases h2 with rfl | ⟨b, off, rfl, hlt, hc⟩
  · exact .inl (by simp)
  · exact .inr ⟨b, off, rfl, hlt, fun j x hx => hc j x (by
      rw [List.getElem?_take] at hx
      split at hx
      · exact hx
      · cases hx)⟩
/-- What the document's At answers: the kind, the data, the error. -/
theorem kd_tree {t : List Ent} (ht : TR t) {q : List UInt8} (h : (kdV t q).1 = 0) : (kdV t q).2 = 1 ∨ (kdV t q).2 = 2 := by
  unfold kdV at h ⊢
  by_cases h1 : isP q
  · rw [if_neg (not_not_intro h1)] at h ⊢
    by_cases h2 : q = [47]
    · rw [if_pos h2]; exact .inr rfl
    · rw [if_neg h2] at h ⊢
      cases hf : fnd t q with
      | none => rw [hf] at h; cases h
      | some e =>
        obtain ⟨h8, _⟩ := (fnd_some ht.1.2.1).1 hf
        have h3 := kind_of (ht.1.1 e h8)
        have h4 := ht.2 e h8
        show e.2.1 = 1 ∨ e.2.1 = 2
        omega
  · rw [if_pos h1] at h; cases h
theorem kd_err {t : List Ent} {q : List UInt8} (hq : isP q) (h : (kdV t q).1 ≠ 0) : (kdV t q).2 = 0 ∧ datV t q = ⟨#[]⟩ := by
  unfold kdV at h ⊢
  rw [if_neg (not_not_intro hq)] at h ⊢
  by_cases h2 : q = [47]
  · rw [if_pos h2] at h; exact absurd rfl h
  · rw [if_neg h2] at h ⊢
    unfold datV
    cases hf : fnd t q with
    | none => exact ⟨rfl, rfl⟩
    | some e => rw [hf] at h; exact absurd rfl h
set_option maxRecDepth 10000 in
set_option maxHeartbeats 4000000 in
theorem refAt12 (S : List (List Ent)) (a : Option Addr) (cap : Nat) (p : ByteArray) (w : World) (h : Stk w a cap S) (h9 : S.length ≤ 9) (hr : ∀ l ∈ S, RightL l) (hp : p.size ≤ 100000) :
    Calls Tryz.prog 28 #[.slice a S.length cap, .string p] w fun e w' => e = .returned (.tuple #[.int .i64 (atV (stk S) p.data.toList).2.2.1, .string (atV (stk S) p.data.toList).2.2.2, .int .i64 (atV (stk S) p.data.toList).1]) ∧ Below w.heap.size w w' := by
  have HE := Lib.hid h
  have HC := Lib.hid (refSplit_any p hp w)
  have HST : Hid (∀ W, Below w.heap.size w W → _) := fun W hW => refStack10 S a cap W (Stk.below HE.out hW) (by omega) hr
  have HTR := Lib.hid (tr_stk hr)
  have HTL := Lib.hid (show (stk S).length ≤ 1000 by have := stk_len hr; omega)
  obtain ⟨T, hT⟩ : ∃ T, stk S = T := ⟨_, rfl⟩
  rw [hT] at HTR HTL HST ⊢
  have HNL := Lib.hid (names_len p)
  have HPS := Lib.hid hp
  obtain ⟨r, hr'⟩ : ∃ r, atV T p.data.toList = r := ⟨_, rfl⟩
  have HR := Lib.hid hr'
  rw [hr']
  clear h h9 hr hp hT hr'
  by_cases h1 : isP p.data.toList
  · rw [decide_eq_true h1] at HC
    have HP := Lib.hid h1
    have HNM := Lib.hid (show lists (names p) = pcs p.data.toList by rw [names_pos h1, lists_prts9])
    have HN8 := Lib.hid (show ∀ x ∈ names p, x.size ≤ 8 from fun x hx => by
      rw [names_pos h1] at hx
      unfold prts at hx
      obtain ⟨y, hy, rfl⟩ := List.mem_map.1 hx
      rw [bs_size]
      exact nm_len (h1.2.2 y hy))
    have HLN := Lib.hid (show (pcs p.data.toList).length = (names p).length by rw [← HNM.out]; simp [lists])
    have HPRE := Lib.hid (show ∀ i, bs (pth (lists ((names p).take i))) = bs (pre12 p.data.toList i) from fun i => by
      unfold pre12
      rw [← HNM.out]
      unfold lists
      rw [List.map_take])
    obtain ⟨ns, hns⟩ : ∃ ns, names p = ns := ⟨_, rfl⟩
    rw [hns] at HC HNM HN8 HLN HPRE HNL
    clear h1 hns
    go_enter Tryz.func28, Tryz.ntmps28
    go_wp2_with fail
    refine (HC.out).mono ?_
    rintro e w1 ⟨aN, cN, rfl, hrow, hb⟩
    have HB1 := Lib.hid hb
    have HRW := Lib.hid hrow
    have HNC := Lib.hid hrow.1
    clear hb hrow
    go_wp2_with fail
    refine (HST.out _ HB1.out).mono ?_
    rintro e w2 ⟨aT, cT, rfl, h2, hb⟩
    have HB2 := Lib.hid (HB1.out.trans (hb.mono HB1.out.size))
    have HET := Lib.hid h2
    have HRW2 := Lib.hid (Row.below HRW.out hb)
    clear hb h2 HST
    go_wp2
    go_loopg [10] ns.length (fun g i wx => ∃ k : Nat, i = .int .i64 (k : Int) ∧ k + g = ns.length ∧ Hid (dirs12 T p.data.toList k) ∧ Hid (Below w.heap.size w wx) ∧ Hid (Below w2.heap.size w2 wx))
    case atStart => exact ⟨0, rfl, by omega, .inl rfl, HB2.out, Below.refl _ _⟩
    case round =>
      obtain ⟨k, rfl, hk, HI, HB, HBB⟩ := hrel
      have hw : IntKind.i64.wrap ((k : Int) + 1) = (k : Int) + 1 := IntWalk.i64_in _ (by have := HNL.out; omega)
      by_cases hlt : k < ns.length
      · have hlt' : (k : Int) < (ns.length : Int) := by omega
        have hcap : (k : Int) ≤ (cN : Int) := by have := HNC.out; omega
        have HJ : Hid (Calls Tryz.prog 58 #[.slice aN k cN] wr fun e w' => e = .returned (.string (bs (pre12 p.data.toList k))) ∧ wr = w') := by
          have := refJoin9 (ns.take k) aN cN wr (row_take12 (Row.below HRW2.out HBB.out) k) (by have := HNL.out; simp; omega) (fun x hx => HN8.out x (List.mem_of_mem_take hx))
          rw [HPRE.out k, List.length_take, Nat.min_eq_left (by omega)] at this
          exact this
        have HK := Lib.hid (refKind12 T aT cT (bs (pre12 p.data.toList k)) wr (RowN.below HET.out HBB.out) HTL.out (by
          rw [bs_size]
          have := isP_len (pre_isP HP.out k).1
          omega))
        rw [bs_list] at HK
        have HRA := Lib.hid (ref_at HP.out (show k < (pcs p.data.toList).length by rw [HLN.out]; exact hlt) HI.out)
        have HKT := Lib.hid (fun h => kd_tree HTR.out (q := pre12 p.data.toList k) h)
        obtain ⟨q, hq⟩ : ∃ q, kdV T (pre12 p.data.toList k) = q := ⟨_, rfl⟩
        rw [hq] at HK HRA HKT
        obtain ⟨er, kd⟩ := q
        obtain ⟨s, hs⟩ : ∃ s, bs (pre12 p.data.toList k) = s := ⟨_, rfl⟩
        rw [hs] at HJ HK
        clear hq hs
        go_wp2_with fail
        refine (HJ.out).mono ?_
        rintro e w3 ⟨rfl, rfl⟩
        go_wp2_with fail
        refine (HK.out).mono ?_
        rintro e w4 ⟨rfl, hb⟩
        have HB4 := Lib.hid (HB.out.trans (hb.mono HB.out.size))
        have HBB4 := Lib.hid (HBB.out.trans (hb.mono HBB.out.size))
        clear hb
        by_cases h0 : er = 0
        · subst h0
          rcases HKT.out rfl with hk1 | hk2
          · have hk1 : kd = 1 := hk1
            subst hk1
            have HV := Lib.hid (show r = (6, noE) by
              have h6 := HRA.out.2.1 rfl (by decide)
              rw [HR.out] at h6
              have := atV_err T (p := p.data.toList) (by rw [HR.out, h6]; decide)
              rw [HR.out] at this
              exact Prod.ext h6 this)
            go_wp2
            go_ret3
            exact ⟨by rw [HV.out]; rfl, HB4.out⟩
          · have hk2 : kd = 2 := hk2
            subst hk2
            have HN := Lib.hid (HRA.out.2.2 rfl rfl)
            go_wp2
            go_roundg (gk - 1)
            case measure => omega
            case rel => exact ⟨k + 1, by simp, by omega, HN.out, HB4.out, HBB4.out⟩
        · have HV := Lib.hid (show r = (er, noE) by
            have h6 := HRA.out.1 h0
            rw [HR.out] at h6
            have := atV_err T (p := p.data.toList) (by rw [HR.out, h6]; exact h0)
            rw [HR.out] at this
            exact Prod.ext h6 this)
          have g1 : (er == 0) = false := beq_eq_false_iff_ne.2 h0
          have g2 : (er != 0) = true := by rw [bne, g1]; rfl
          clear h0
          go_wp2
          go_ret3
          exact ⟨by rw [HV.out]; rfl, HB4.out⟩
      · have hlt' : ¬ (k : Int) < (ns.length : Int) := by omega
        have HKP := Lib.hid (refKind12 T aT cT p wr (RowN.below HET.out HBB.out) HTL.out HPS.out)
        have HV := Lib.hid (show r.2.2.1 = (kdV T p.data.toList).2 ∧ r.2.2.2 = datV T p.data.toList ∧ r.1 = (kdV T p.data.toList).1 by
          have hd : dirs12 T p.data.toList (pcs p.data.toList).length := by rw [HLN.out, show ns.length = k by omega]; exact HI.out
          obtain ⟨e1, e2⟩ := ref_end HP.out hd
          rw [← HR.out]
          by_cases h0 : (atV T p.data.toList).1 = 0
          · exact ⟨(e2 h0).symm, atV_data HTR.out HP.out h0, e1.symm⟩
          · obtain ⟨k1, k2⟩ := kd_err HP.out (t := T) (by rw [e1]; exact h0)
            rw [atV_err T h0]
            exact ⟨k1.symm, k2.symm, e1.symm⟩)
        obtain ⟨q, hq⟩ : ∃ q, kdV T p.data.toList = q := ⟨_, rfl⟩
        rw [hq] at HKP HV
        clear hq
        go_wp2_with fail
        refine (HKP.out).mono ?_
        rintro e w4 ⟨rfl, hb⟩
        have HB4 := Lib.hid (HB.out.trans (hb.mono HB.out.size))
        have HDT := Lib.hid (refData12 T aT cT p w4 (RowN.below HET.out (HBB.out.trans (hb.mono HBB.out.size))) HTL.out)
        clear hb
        go_wp2_with fail
        refine (HDT.out).mono ?_
        rintro e w5 ⟨rfl, rfl⟩
        go_wp2
        go_ret3
        exact ⟨by rw [HV.out.1, HV.out.2.1, HV.out.2.2]; rfl, HB4.out⟩
  · rw [decide_eq_false h1] at HC
    have HV := Lib.hid (show r = (2, noE) by rw [← HR.out]; exact if_pos h1)
    clear h1
    go_enter Tryz.func28, Tryz.ntmps28
    go_wp2_with fail
    refine (HC.out).mono ?_
    rintro e w1 ⟨_, _, rfl, _, hb⟩
    have HB := Lib.hid hb
    clear hb
    go_wp2
    go_ret3
    exact ⟨by rw [HV.out]; rfl, HB.out⟩
theorem stk_at12 {w : World} {a : Option Addr} {cap : Nat} {S : List (List Ent)} (h : Stk w a cap S) {k : Nat} (hk : k < S.length) :
    ∃ b off a' cap', a = some ⟨b, off, none⟩ ∧ ∀ W, Below w.heap.size w W → W.cell? ⟨b, off + k, none⟩ = some (.slice a' (S[k]).length cap') ∧ Ents W a' cap' S[k] := by
  rcases h.2 with h0 | ⟨b, off, rfl, hlt, hc⟩
  · rw [h0] at hk; simp at hk
  · obtain ⟨a', cap', h3, h4⟩ := hc k S[k] (List.getElem?_eq_getElem hk)
    exact ⟨b, off, a', cap', rfl, fun W hW => ⟨(hW.cell (p := ⟨b, off + k, none⟩) hlt).trans h3, RowN.below h4 hW⟩⟩
/-- Behind so many entries of a layer. -/
def flE12 (S : List (List Ent)) (p : List UInt8) (n : Nat) (f : Nat) (l : List Ent) : Nat := if l.any (hitE S p n) = true then max f n else f
theorem flE_nil (S : List (List Ent)) (p : List UInt8) (n f : Nat) : flE12 S p n f [] = f := rfl
theorem flE_snoc (S : List (List Ent)) (p : List UInt8) (n f : Nat) (l : List Ent) (e : Ent) : flE12 S p n f (l ++ [e]) = if hitE S p n e = true then max (flE12 S p n f l) n else flE12 S p n f l := by
  unfold flE12
  rw [List.any_append]
  cases h1 : l.any (hitE S p n) <;> cases h2 : hitE S p n e <;> simp [h2]
theorem flE_flr (S : List (List Ent)) (p : List UInt8) (n f : Nat) : flE12 S p n (flr12 S p f n) (layN S n) = flr12 S p f (n + 1) := rfl
theorem flr_le_len (S : List (List Ent)) (p : List UInt8) (f : Nat) : ∀ n, flr12 S p f n ≤ max f n
  | 0 => by show f ≤ _; omega
  | n + 1 => by
    have := flr_le_len S p f n
    rw [flr12]
    split <;> omega
end Go.Proofs.YtemnlolkmjdefaaGreatDoor
