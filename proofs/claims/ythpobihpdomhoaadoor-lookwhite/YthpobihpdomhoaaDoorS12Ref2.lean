/-
  Contracts of the document's own At and Floor of a stack (package shaleref12). Conditions: right layers in memory, at most nine; Floor: a directory lies there; texts of at most 100000 bytes.
-/
import Derived.Test.YthpobihpdomhoaaDoorS12Ref
namespace Go.Proofs.YthpobihpdomhoaaDoor
open Go.RowKit

theorem row_take12 {w : World} {a : Option Addr} {cap : Nat} {ns : List ByteArray} (h : Row w a cap ns) (i : Nat) : Row w a cap (ns.take i) := by
  obtain ⟨h1, h2⟩ := h
  refine ⟨by simp; omega, ?_⟩
  rcases h2 with rfl | ⟨b, off, rfl, hlt, hc⟩
  · exact .inl (by simp)
  · exact .inr ⟨b, off, rfl, hlt, fun j x hx => hc j x (by
      rw [List.getElem?_take] at hx
      split at hx
      · exact hx
      · cases hx)⟩
/-- What the document's At answers: the kind, the data, the error. -/
theorem kd_tree {t : List Ent} (ht : TR t) {q : List UInt8} (h : (kdV t q).1 = 0) : (kdV t q).2 = 1 ∨ (kdV t q).2 = 2 := by
  unfold kdV at h ⊢
  by_cases h1 : isP q
  · rw [if_neg (not_not_intro h1)] at h ⊢
    by_cases h2 : q = [47]
    · rw [if_pos h2]; exact .inr rfl
    · rw [if_neg h2] at h ⊢
      cases hf : fnd t q with
      | none => rw [hf] at h; cases h
      | some e =>
        obtain ⟨h8, _⟩ := (fnd_some ht.1.2.1).1 hf
        have h3 := kind_of (ht.1.1 e h8)
        have h4 := ht.2 e h8
        show e.2.1 = 1 ∨ e.2.1 = 2
        omega
  · rw [if_pos h1] at h; cases h
theorem kd_err {t : List Ent} {q : List UInt8} (hq : isP q) (h : (kdV t q).1 ≠ 0) : (kdV t q).2 = 0 ∧ datV t q = ⟨#[]⟩ := by
  unfold kdV at h ⊢
  rw [if_neg (not_not_intro hq)] at h ⊢
  by_cases h2 : q = [47]
  · rw [if_pos h2] at h; exact absurd rfl h
  · rw [if_neg h2] at h ⊢
    unfold datV
    cases hf : fnd t q with
    | none => exact ⟨rfl, rfl⟩
    | some e => rw [hf] at h; exact absurd rfl h
set_option maxRecDepth 10000 in
set_option maxHeartbeats 4000000 in
theorem refAt12 (S : List (List Ent)) (a : Option Addr) (cap : Nat) (p : ByteArray) (w : World) (h : Stk w a cap S) (h9 : S.length ≤ 9) (hr : ∀ l ∈ S, RightL l) (hp : p.size ≤ 100000) :
    Calls Tryd.prog 14 #[.slice a S.length cap, .string p] w fun e w' => e = .returned (.tuple #[.int .i64 (atV (stk S) p.data.toList).2.2.1, .string (atV (stk S) p.data.toList).2.2.2, .int .i64 (atV (stk S) p.data.toList).1]) ∧ Below w.heap.size w w' := by
  have HE := Lib.hid h
  have HC := Lib.hid (refSplit_any p hp w)
  have HST : Hid (∀ W, Below w.heap.size w W → _) := fun W hW => refStack10 S a cap W (Stk.below HE.out hW) (by omega) hr
  have HTR := Lib.hid (tr_stk hr)
  have HTL := Lib.hid (show (stk S).length ≤ 1000 by have := stk_len hr; omega)
  obtain ⟨T, hT⟩ : ∃ T, stk S = T := ⟨_, rfl⟩
  rw [hT] at HTR HTL HST ⊢
  have HNL := Lib.hid (names_len p)
  have HPS := Lib.hid hp
  obtain ⟨r, hr'⟩ : ∃ r, atV T p.data.toList = r := ⟨_, rfl⟩
  have HR := Lib.hid hr'
  rw [hr']
  clear h h9 hr hp hT hr'
  by_cases h1 : isP p.data.toList
  · rw [decide_eq_true h1] at HC
    have HP := Lib.hid h1
    have HNM := Lib.hid (show lists (names p) = pcs p.data.toList by rw [names_pos h1, lists_prts9])
    have HN8 := Lib.hid (show ∀ x ∈ names p, x.size ≤ 8 from fun x hx => by
      rw [names_pos h1] at hx
      unfold prts at hx
      obtain ⟨y, hy, rfl⟩ := List.mem_map.1 hx
      rw [bs_size]
      exact nm_len (h1.2.2 y hy))
    have HLN := Lib.hid (show (pcs p.data.toList).length = (names p).length by rw [← HNM.out]; simp [lists])
    have HPRE := Lib.hid (show ∀ i, bs (pth (lists ((names p).take i))) = bs (pre12 p.data.toList i) from fun i => by
      unfold pre12
      rw [← HNM.out]
      unfold lists
      rw [List.map_take])
    obtain ⟨ns, hns⟩ : ∃ ns, names p = ns := ⟨_, rfl⟩
    rw [hns] at HC HNM HN8 HLN HPRE HNL
    clear h1 hns
    go_enter Tryd.func14, Tryd.ntmps14
    go_wp2_with fail
    refine (HC.out).mono ?_
    rintro e w1 ⟨aN, cN, rfl, hrow, hb⟩
    have HB1 := Lib.hid hb
    have HRW := Lib.hid hrow
    have HNC := Lib.hid hrow.1
    clear hb hrow
    go_wp2_with fail
    refine (HST.out _ HB1.out).mono ?_
    rintro e w2 ⟨aT, cT, rfl, h2, hb⟩
    have HB2 := Lib.hid (HB1.out.trans (hb.mono HB1.out.size))
    have HET := Lib.hid h2
    have HRW2 := Lib.hid (Row.below HRW.out hb)
    clear hb h2 HST
    go_wp2
    go_loopg [10] ns.length (fun g i wx => ∃ k : Nat, i = .int .i64 (k : Int) ∧ k + g = ns.length ∧ Hid (dirs12 T p.data.toList k) ∧ Hid (Below w.heap.size w wx) ∧ Hid (Below w2.heap.size w2 wx))
    case atStart => exact ⟨0, rfl, by omega, .inl rfl, HB2.out, Below.refl _ _⟩
    case round =>
      obtain ⟨k, rfl, hk, HI, HB, HBB⟩ := hrel
      have hw : IntKind.i64.wrap ((k : Int) + 1) = (k : Int) + 1 := IntWalk.i64_in _ (by have := HNL.out; omega)
      by_cases hlt : k < ns.length
      · have hlt' : (k : Int) < (ns.length : Int) := by omega
        have hcap : (k : Int) ≤ (cN : Int) := by have := HNC.out; omega
        have HJ : Hid (Calls Tryd.prog 29 #[.slice aN k cN] wr fun e w' => e = .returned (.string (bs (pre12 p.data.toList k))) ∧ wr = w') := by
          have := refJoin9 (ns.take k) aN cN wr (row_take12 (Row.below HRW2.out HBB.out) k) (by have := HNL.out; simp; omega) (fun x hx => HN8.out x (List.mem_of_mem_take hx))
          rw [HPRE.out k, List.length_take, Nat.min_eq_left (by omega)] at this
          exact this
        have HK := Lib.hid (refKind12 T aT cT (bs (pre12 p.data.toList k)) wr (RowN.below HET.out HBB.out) HTL.out (by
          rw [bs_size]
          have := isP_len (pre_isP HP.out k).1
          omega))
        rw [bs_list] at HK
        have HRA := Lib.hid (ref_at HP.out (show k < (pcs p.data.toList).length by rw [HLN.out]; exact hlt) HI.out)
        have HKT := Lib.hid (fun h => kd_tree HTR.out (q := pre12 p.data.toList k) h)
        obtain ⟨q, hq⟩ : ∃ q, kdV T (pre12 p.data.toList k) = q := ⟨_, rfl⟩
        rw [hq] at HK HRA HKT
        obtain ⟨er, kd⟩ := q
        obtain ⟨s, hs⟩ : ∃ s, bs (pre12 p.data.toList k) = s := ⟨_, rfl⟩
        rw [hs] at HJ HK
        clear hq hs
        go_wp2_with fail
        refine (HJ.out).mono ?_
        rintro e w3 ⟨rfl, rfl⟩
        go_wp2_with fail
        refine (HK.out).mono ?_
        rintro e w4 ⟨rfl, hb⟩
        have HB4 := Lib.hid (HB.out.trans (hb.mono HB.out.size))
        have HBB4 := Lib.hid (HBB.out.trans (hb.mono HBB.out.size))
        clear hb
        by_cases h0 : er = 0
        · subst h0
          rcases HKT.out rfl with hk1 | hk2
          · have hk1 : kd = 1 := hk1
            subst hk1
            have HV := Lib.hid (show r = (6, noE) by
              have h6 := HRA.out.2.1 rfl (by decide)
              rw [HR.out] at h6
              have := atV_err T (p := p.data.toList) (by rw [HR.out, h6]; decide)
              rw [HR.out] at this
              exact Prod.ext h6 this)
            go_wp2
            go_ret3
            exact ⟨by rw [HV.out]; rfl, HB4.out⟩
          · have hk2 : kd = 2 := hk2
            subst hk2
            have HN := Lib.hid (HRA.out.2.2 rfl rfl)
            go_wp2
            go_roundg (gk - 1)
            case measure => omega
            case rel => exact ⟨k + 1, by simp, by omega, HN.out, HB4.out, HBB4.out⟩
        · have HV := Lib.hid (show r = (er, noE) by
            have h6 := HRA.out.1 h0
            rw [HR.out] at h6
            have := atV_err T (p := p.data.toList) (by rw [HR.out, h6]; exact h0)
            rw [HR.out] at this
            exact Prod.ext h6 this)
          have g1 : (er == 0) = false := beq_eq_false_iff_ne.2 h0
          have g2 : (er != 0) = true := by rw [bne, g1]; rfl
          clear h0
          go_wp2
          go_ret3
          exact ⟨by rw [HV.out]; rfl, HB4.out⟩
      · have hlt' : ¬ (k : Int) < (ns.length : Int) := by omega
        have HKP := Lib.hid (refKind12 T aT cT p wr (RowN.below HET.out HBB.out) HTL.out HPS.out)
        have HV := Lib.hid (show r.2.2.1 = (kdV T p.data.toList).2 ∧ r.2.2.2 = datV T p.data.toList ∧ r.1 = (kdV T p.data.toList).1 by
          have hd : dirs12 T p.data.toList (pcs p.data.toList).length := by rw [HLN.out, show ns.length = k by omega]; exact HI.out
          obtain ⟨e1, e2⟩ := ref_end HP.out hd
          rw [← HR.out]
          by_cases h0 : (atV T p.data.toList).1 = 0
          · exact ⟨(e2 h0).symm, atV_data HTR.out HP.out h0, e1.symm⟩
          · obtain ⟨k1, k2⟩ := kd_err HP.out (t := T) (by rw [e1]; exact h0)
            rw [atV_err T h0]
            exact ⟨k1.symm, k2.symm, e1.symm⟩)
        obtain ⟨q, hq⟩ : ∃ q, kdV T p.data.toList = q := ⟨_, rfl⟩
        rw [hq] at HKP HV
        clear hq
        go_wp2_with fail
        refine (HKP.out).mono ?_
        rintro e w4 ⟨rfl, hb⟩
        have HB4 := Lib.hid (HB.out.trans (hb.mono HB.out.size))
        have HDT := Lib.hid (refData12 T aT cT p w4 (RowN.below HET.out (HBB.out.trans (hb.mono HBB.out.size))) HTL.out)
        clear hb
        go_wp2_with fail
        refine (HDT.out).mono ?_
        rintro e w5 ⟨rfl, rfl⟩
        go_wp2
        go_ret3
        exact ⟨by rw [HV.out.1, HV.out.2.1, HV.out.2.2]; rfl, HB4.out⟩
  · rw [decide_eq_false h1] at HC
    have HV := Lib.hid (show r = (2, noE) by rw [← HR.out]; exact if_pos h1)
    clear h1
    go_enter Tryd.func14, Tryd.ntmps14
    go_wp2_with fail
    refine (HC.out).mono ?_
    rintro e w1 ⟨_, _, rfl, _, hb⟩
    have HB := Lib.hid hb
    clear hb
    go_wp2
    go_ret3
    exact ⟨by rw [HV.out]; rfl, HB.out⟩
theorem stk_at12 {w : World} {a : Option Addr} {cap : Nat} {S : List (List Ent)} (h : Stk w a cap S) {k : Nat} (hk : k < S.length) :
    ∃ b off a' cap', a = some ⟨b, off, none⟩ ∧ ∀ W, Below w.heap.size w W → W.cell? ⟨b, off + k, none⟩ = some (.slice a' (S[k]).length cap') ∧ Ents W a' cap' S[k] := by
  rcases h.2 with h0 | ⟨b, off, rfl, hlt, hc⟩
  · rw [h0] at hk; simp at hk
  · obtain ⟨a', cap', h3, h4⟩ := hc k S[k] (List.getElem?_eq_getElem hk)
    exact ⟨b, off, a', cap', rfl, fun W hW => ⟨(hW.cell (p := ⟨b, off + k, none⟩) hlt).trans h3, RowN.below h4 hW⟩⟩
/-- Behind so many entries of a layer. -/
def flE12 (S : List (List Ent)) (p : List UInt8) (n : Nat) (f : Nat) (l : List Ent) : Nat := if l.any (hitE S p n) = true then max f n else f
theorem flE_nil (S : List (List Ent)) (p : List UInt8) (n f : Nat) : flE12 S p n f [] = f := rfl
theorem flE_snoc (S : List (List Ent)) (p : List UInt8) (n f : Nat) (l : List Ent) (e : Ent) : flE12 S p n f (l ++ [e]) = if hitE S p n e = true then max (flE12 S p n f l) n else flE12 S p n f l := by
  unfold flE12
  rw [List.any_append]
  cases h1 : l.any (hitE S p n) <;> cases h2 : hitE S p n e <;> simp [h2]
theorem flE_flr (S : List (List Ent)) (p : List UInt8) (n f : Nat) : flE12 S p n (flr12 S p f n) (layN S n) = flr12 S p f (n + 1) := rfl
theorem flr_le_len (S : List (List Ent)) (p : List UInt8) (f : Nat) : ∀ n, flr12 S p f n ≤ max f n
  | 0 => by show f ≤ _; omega
  | n + 1 => by
    have := flr_le_len S p f n
    rw [flr12]
    split <;> omega
set_option maxRecDepth 10000 in
set_option maxHeartbeats 8000000 in
theorem refFloor12 (S : List (List Ent)) (h9 : S.length ≤ 9) (hr : ∀ l ∈ S, RightL l) : ∀ q, isP q → (atS S q).1 = 0 → (atS S q).2.1.2.1 = 2 → ∀ (a : Option Addr) (cap : Nat) (p : ByteArray) (w : World), p.data.toList = q → Stk w a cap S →
    Calls Tryd.prog 17 #[.slice a S.length cap, .string p] w fun e w' => e = .returned (.int .i64 ((atS S q).2.2 : Nat)) ∧ Below w.heap.size w w' := by
  refine path_ind (fun _ _ a cap p w hp h => ?_) fun q hq hne ih h0 hk a cap p w hp h => ?_
  · have g1 : (p.toList == [47]) = true := by rw [Lib.toList_data, beq_iff_eq]; exact hp
    rw [atS_root]
    clear hp h
    go_enter Tryd.func17, Tryd.ntmps17
    go_wp2
    go_ret
    exact ⟨rfl, Below.refl _ _⟩
  · have g1 : (p.toList == [47]) = false := by rw [Lib.toList_data, beq_eq_false_iff_ne, hp]; exact hne
    obtain ⟨h1, h2, _⟩ := atS_up hq hne h0
    have hF := floor_is hr hq hne h0 hk
    have hlt := (floor_par hq hne h0).2
    have HPAR := Lib.hid (fun W => refPar9 p (by rw [hp]; exact hq) (by rw [hp]; exact hne) W)
    rw [hp] at HPAR
    have HE := Lib.hid h
    have HIH : Hid (∀ W, Below w.heap.size w W → _) := fun W hW => ih h1 h2 a cap (bs (par9 q)) W (bs_list _) (Stk.below HE.out hW)
    have HF := Lib.hid hF
    obtain ⟨f0, hf0⟩ : ∃ f0, (atS S (par9 q)).2.2 = f0 := ⟨_, rfl⟩
    rw [hf0] at HIH HF
    obtain ⟨R, hR⟩ : ∃ R, (atS S q).2.2 = R := ⟨_, rfl⟩
    rw [hR] at HF ⊢
    have hf9 : f0 ≤ 9 := by have := (flr_ge S q f0 S.length).1; rw [HF.out] at this; omega
    have HST : Hid (∀ W k, Below w.heap.size w W → k ≤ S.length → _) := fun W k hW hk9 => refStack10 (S.take k) a cap W (Stk.take (Stk.below HE.out hW) k) (by simp; omega) fun l hl => hr l (List.mem_of_mem_take hl)
    have HTL := Lib.hid (fun k => show (stk (S.take k)).length ≤ 1000 by
      have := stk_len (s := S.take k) fun l hl => hr l (List.mem_of_mem_take hl)
      simp at this
      omega)
    have HPZ := Lib.hid (show p.size ≤ 100000 by have := isP_len hq; rw [Lib.size_eq, hp]; omega)
    have HPQ := Lib.hid hp
    have HRL := Lib.hid (fun k (hk : k < S.length) => show S[k].length ≤ 64 from (hr S[k] (List.getElem_mem hk)).1)
    have HCAP := Lib.hid h.1
    clear ih h0 hk h h1 h2 hF hlt hf0 hR hp
    go_enter Tryd.func17, Tryd.ntmps17
    go_wp2_with fail
    refine (HPAR.out _).mono ?_
    rintro e w1 ⟨rfl, hb⟩
    have HB1 := Lib.hid hb
    clear hb
    have HIH1 := Lib.hid (HIH.out w1 HB1.out)
    obtain ⟨pp, hpp⟩ : ∃ s, bs (par9 q) = s := ⟨_, rfl⟩
    rw [hpp] at HIH1
    rw [hpp]
    clear hpp HIH HPAR
    go_wp2_with fail
    refine (HIH1.out).mono ?_
    rintro e w2 ⟨rfl, hb⟩
    have HB2 := Lib.hid (HB1.out.trans (hb.mono HB1.out.size))
    clear hb
    go_wp2
    go_loopg [5, 6] S.length (fun g fl i wx => ∃ k : Nat, fl = .int .i64 (flr12 S q f0 k : Nat) ∧ i = .int .i64 ((k : Int) + 1) ∧ k + g = S.length ∧ Hid (Below w.heap.size w wx))
    case atStart => exact ⟨0, rfl, rfl, by omega, HB2.out⟩
    case round =>
      obtain ⟨k, rfl, rfl, hk, HB⟩ := hrel
      have hw0 : IntKind.i64.wrap (k : Int) = (k : Int) := IntWalk.i64_in _ (by omega)
      by_cases hlt : k < S.length
      · have hlt' : (k : Int) + 1 ≤ (S.length : Int) := by omega
        have hlt2 : (k : Int) < (S.length : Int) := by omega
        have hw1 : IntKind.i64.wrap ((k : Int) + 1 + 1) = ((k + 1 : Nat) : Int) + 1 := by rw [IntWalk.i64_in _ (by omega)]; simp
        obtain ⟨b, off, ax, cx, rfl, hcX⟩ := stk_at12 HE.out hlt
        have HXL := Lib.hid (HRL.out k hlt)
        have HLY := Lib.hid (show S[k] = layN S k by unfold layN; rw [List.getD_eq_getElem?_getD, List.getElem?_eq_getElem hlt]; rfl)
        obtain ⟨x, hx⟩ : ∃ x, S[k] = x := ⟨_, rfl⟩
        rw [hx] at hcX HXL HLY
        have HCX := Lib.hid hcX
        have hc := (hcX wr HB.out).1
        have hsk : (k : Int) ≤ (cap : Int) := by have := HCAP.out; omega
        have HSTK := Lib.hid (fun W hW => HST.out W k hW (by omega))
        have HLK := Lib.hid (show (S.take k).length = k by simp; omega)
        simp only [HLK.out] at HSTK
        have HTK := Lib.hid (HTL.out k)
        have HKC : Hid (∀ W aT cT, Ents W aT cT (stk (S.take k)) → _) := fun W aT cT hT => refKind12 (stk (S.take k)) aT cT p W hT HTK.out HPZ.out
        rw [HPQ.out] at HKC
        have HIT := Lib.hid (fun e => show hitE S q k e = (decide (pl e = q) && (e.2.1 == 4 || e.2.1 == 2 && decide (kdV (stk (S.take k)) q ≠ (0, 2)))) from rfl)
        obtain ⟨T, hT⟩ : ∃ T, stk (S.take k) = T := ⟨_, rfl⟩
        rw [hT] at HSTK HTK HKC HIT
        obtain ⟨kd, hkd⟩ : ∃ kd, kdV T q = kd := ⟨_, rfl⟩
        rw [hkd] at HKC HIT
        obtain ⟨er, kk⟩ := kd
        obtain ⟨F, hF⟩ : ∃ F, flr12 S q f0 k = F := ⟨_, rfl⟩
        have HF9 := Lib.hid (show F ≤ 9 by have := flr_le_len S q f0 k; omega)
        have HSN := Lib.hid (show flE12 S q k F x = flr12 S q f0 (k + 1) by rw [HLY.out, ← hF]; exact flE_flr S q k f0)
        rw [hF]
        clear hcX hx hT hkd hF
        go_wp2
        go_loopg [5, 7] x.length (fun g fl i wx => ∃ j : Nat, fl = .int .i64 (flE12 S q k F (x.take j) : Nat) ∧ i = .int .i64 (j : Int) ∧ j + g = x.length ∧ Hid (Below w.heap.size w wx))
        case atStart => exact ⟨0, by simp [flE_nil], rfl, by omega, HB.out⟩
        case round =>
          rename_i _ gkO _ _ _ _
          obtain ⟨j, rfl, rfl, hj, HBj⟩ := hrel
          have hwj : IntKind.i64.wrap ((j : Int) + 1) = (j : Int) + 1 := IntWalk.i64_in _ (by have := HXL.out; omega)
          have hcj := (HCX.out wr HBj.out).1
          by_cases hjl : j < x.length
          · have hjl' : (j : Int) < (x.length : Int) := by omega
            obtain ⟨bx, ox, rfl, _, hce⟩ := Ents.at (HCX.out wr HBj.out).2 (Below.refl _ _) hjl
            have HTJ := Lib.hid (take_get x j hjl)
            obtain ⟨z, hz⟩ : ∃ z, x[j] = z := ⟨_, rfl⟩
            rw [hz] at hce HTJ
            have HSJ := Lib.hid (show flE12 S q k F (x.take (j + 1)) = if hitE S q k z = true then max (flE12 S q k F (x.take j)) k else flE12 S q k F (x.take j) by rw [HTJ.out, flE_snoc])
            have HZT := Lib.hid (HIT.out z)
            obtain ⟨G, hG⟩ : ∃ G, flE12 S q k F (x.take j) = G := ⟨_, rfl⟩
            rw [hG] at HSJ
            rw [hG]
            have c0 := hce.c0
            have c1 := hce.c1
            have c2 := hce.c2
            obtain ⟨V, hV⟩ : ∃ V, wr.alloc (.cells #[.string z.1, .int .i64 z.2.1, .string z.2.2] 26) = V := ⟨_, rfl⟩
            obtain ⟨M, hM⟩ : ∃ M, wr.heap.size = M := ⟨_, rfl⟩
            have hbV : Below wr.heap.size wr V := by rw [← hV]; exact (Below.refl _ _).alloc (Nat.le_refl _) _
            have HBV := Lib.hid (HBj.out.trans (hbV.mono HBj.out.size))
            have HQ := Lib.hid (show EnAt V M z.1 z.2.1 z.2.2 by rw [← hV, ← hM]; exact enAt_new _ _ _ _)
            have q0 := HQ.out.c0
            have q1 := HQ.out.c1
            have q2 := HQ.out.c2
            clear hz hce hbV hG
            by_cases hp : pl z = q
            · have g5 : (z.1.toList == p.toList) = true := by rw [Lib.toList_data, Lib.toList_data, HPQ.out, beq_iff_eq]; exact hp
              have g6 : (z.1.toList != p.toList) = false := by rw [bne, g5]; rfl
              have HZ1 := Lib.hid (show hitE S q k z = (z.2.1 == 4 || z.2.1 == 2 && decide ((er, kk) ≠ ((0 : Int), (2 : Int)))) by rw [HZT.out, decide_eq_true hp, Bool.true_and])
              clear hp HZT
              have HS3 := Lib.hid (HSTK.out V HBV.out)
              go_wp2_with fail
              refine (HS3.out).mono ?_
              rintro e w5 ⟨aT, cT, rfl, hET, hb⟩
              have HB5 := Lib.hid (HBV.out.trans (hb.mono HBV.out.size))
              have HQ5 := Lib.hid (HQ.out.below hb)
              have HK5 := Lib.hid (HKC.out w5 aT cT hET)
              clear hb hET q0 q1 q2
              go_wp2_with fail
              refine (HK5.out).mono ?_
              rintro e w6 ⟨rfl, hb⟩
              have HB6 := Lib.hid (HB5.out.trans (hb.mono HB5.out.size))
              have HQ6 := Lib.hid (HQ5.out.below hb)
              clear hb
              have q0 := HQ6.out.c0
              have q1 := HQ6.out.c1
              have q2 := HQ6.out.c2
              have ways : ((z.2.1 == 4) = true ∧ hitE S q k z = true) ∨ ((z.2.1 == 4) = false ∧ (z.2.1 == 2) = false ∧ hitE S q k z = false) ∨ ((z.2.1 == 4) = false ∧ (z.2.1 == 2) = true ∧ (er == 0) = false ∧ hitE S q k z = true) ∨ ((z.2.1 == 4) = false ∧ (z.2.1 == 2) = true ∧ (er == 0) = true ∧ (kk == 2) = false ∧ hitE S q k z = true) ∨ ((z.2.1 == 4) = false ∧ (z.2.1 == 2) = true ∧ (er == 0) = true ∧ (kk == 2) = true ∧ hitE S q k z = false) := by
                have hd : decide ((er, kk) ≠ ((0 : Int), (2 : Int))) = !((er == 0) && (kk == 2)) := by
                  rw [Bool.eq_iff_iff]
                  simp only [decide_eq_true_iff, ne_eq, Prod.mk.injEq, Bool.not_eq_true', Bool.and_eq_false_imp, beq_iff_eq, beq_eq_false_iff_ne]
                  exact ⟨fun h h1 h2 => h ⟨h1, h2⟩, fun h h1 => h h1.1 h1.2⟩
                rw [HZ1.out, hd]
                cases h4 : (z.2.1 == 4) <;> cases h2 : (z.2.1 == 2) <;> cases h0 : (er == 0) <;> cases hk2 : (kk == 2) <;> simp
              rcases ways with ⟨a4, hh⟩ | ⟨a4, a2, hh⟩ | ⟨a4, a2, a0, hh⟩ | ⟨a4, a2, a0, ak, hh⟩ | ⟨a4, a2, a0, ak, hh⟩
              · rw [hh] at HSJ
                clear hh
                have n0 : (er != 0) = !(er == 0) := rfl
                have nk : (kk != 2) = !(kk == 2) := rfl
                try rw [a0] at n0
                try rw [ak] at nk
                by_cases hgk : G < k
                · have hmx1 : (k : Int) > (G : Int) := by omega
                  have HN := Lib.hid (show flE12 S q k F (x.take (j + 1)) = k by rw [HSJ.out, if_pos rfl]; omega)
                  clear HSJ
                  go_wp2
                  go_roundg (x.length - (j + 1))
                  case measure => omega
                  case rel => exact ⟨j + 1, by rw [HN.out], by simp, by omega, HB6.out⟩
                · have hmx1 : ¬ (k : Int) > (G : Int) := by omega
                  have HN := Lib.hid (show flE12 S q k F (x.take (j + 1)) = G by rw [HSJ.out, if_pos rfl]; omega)
                  clear HSJ
                  go_wp2
                  go_roundg (x.length - (j + 1))
                  case measure => omega
                  case rel => exact ⟨j + 1, by rw [HN.out], by simp, by omega, HB6.out⟩
              · rw [hh] at HSJ
                clear hh
                have n0 : (er != 0) = !(er == 0) := rfl
                have nk : (kk != 2) = !(kk == 2) := rfl
                try rw [a0] at n0
                try rw [ak] at nk
                have HN := Lib.hid (show flE12 S q k F (x.take (j + 1)) = G by rw [HSJ.out, if_neg (by decide)])
                clear HSJ
                go_wp2
                go_roundg (x.length - (j + 1))
                case measure => omega
                case rel => exact ⟨j + 1, by rw [HN.out], by simp, by omega, HB6.out⟩
              · rw [hh] at HSJ
                clear hh
                have n0 : (er != 0) = !(er == 0) := rfl
                have nk : (kk != 2) = !(kk == 2) := rfl
                try rw [a0] at n0
                try rw [ak] at nk
                by_cases hgk : G < k
                · have hmx1 : (k : Int) > (G : Int) := by omega
                  have HN := Lib.hid (show flE12 S q k F (x.take (j + 1)) = k by rw [HSJ.out, if_pos rfl]; omega)
                  clear HSJ
                  go_wp2
                  go_roundg (x.length - (j + 1))
                  case measure => omega
                  case rel => exact ⟨j + 1, by rw [HN.out], by simp, by omega, HB6.out⟩
                · have hmx1 : ¬ (k : Int) > (G : Int) := by omega
                  have HN := Lib.hid (show flE12 S q k F (x.take (j + 1)) = G by rw [HSJ.out, if_pos rfl]; omega)
                  clear HSJ
                  go_wp2
                  go_roundg (x.length - (j + 1))
                  case measure => omega
                  case rel => exact ⟨j + 1, by rw [HN.out], by simp, by omega, HB6.out⟩
              · rw [hh] at HSJ
                clear hh
                have n0 : (er != 0) = !(er == 0) := rfl
                have nk : (kk != 2) = !(kk == 2) := rfl
                try rw [a0] at n0
                try rw [ak] at nk
                by_cases hgk : G < k
                · have hmx1 : (k : Int) > (G : Int) := by omega
                  have HN := Lib.hid (show flE12 S q k F (x.take (j + 1)) = k by rw [HSJ.out, if_pos rfl]; omega)
                  clear HSJ
                  go_wp2
                  go_roundg (x.length - (j + 1))
                  case measure => omega
                  case rel => exact ⟨j + 1, by rw [HN.out], by simp, by omega, HB6.out⟩
                · have hmx1 : ¬ (k : Int) > (G : Int) := by omega
                  have HN := Lib.hid (show flE12 S q k F (x.take (j + 1)) = G by rw [HSJ.out, if_pos rfl]; omega)
                  clear HSJ
                  go_wp2
                  go_roundg (x.length - (j + 1))
                  case measure => omega
                  case rel => exact ⟨j + 1, by rw [HN.out], by simp, by omega, HB6.out⟩
              · rw [hh] at HSJ
                clear hh
                have n0 : (er != 0) = !(er == 0) := rfl
                have nk : (kk != 2) = !(kk == 2) := rfl
                try rw [a0] at n0
                try rw [ak] at nk
                have HN := Lib.hid (show flE12 S q k F (x.take (j + 1)) = G by rw [HSJ.out, if_neg (by decide)])
                clear HSJ
                go_wp2
                go_roundg (x.length - (j + 1))
                case measure => omega
                case rel => exact ⟨j + 1, by rw [HN.out], by simp, by omega, HB6.out⟩
            · have g5 : (z.1.toList == p.toList) = false := by rw [Lib.toList_data, Lib.toList_data, HPQ.out, beq_eq_false_iff_ne]; exact hp
              have g6 : (z.1.toList != p.toList) = true := by rw [bne, g5]; rfl
              have HN := Lib.hid (show flE12 S q k F (x.take (j + 1)) = G by
                rw [HSJ.out, HZT.out, decide_eq_false hp]
                rfl)
              clear hp HZT HSJ
              go_wp2
              go_roundg (x.length - (j + 1))
              case measure => omega
              case rel => exact ⟨j + 1, by rw [HN.out], by simp, by omega, HBV.out⟩
          · have hjl' : ¬ (j : Int) < (x.length : Int) := by omega
            have HN := Lib.hid (show flE12 S q k F (x.take j) = flr12 S q f0 (k + 1) by rw [List.take_of_length_le (by omega)]; exact HSN.out)
            rw [HN.out]
            go_wp2
            go_roundg (S.length - (k + 1))
            case measure => omega
            case rel => exact ⟨k + 1, rfl, by simp, by omega, HBj.out⟩
      · have hlt' : ¬ (k : Int) + 1 ≤ (S.length : Int) := by omega
        have HV := Lib.hid (show flr12 S q f0 k = R by rw [show k = S.length by omega]; exact HF.out)
        go_wp2
        go_ret
        exact ⟨by rw [← HV.out]; rfl, HB.out⟩
end Go.Proofs.YthpobihpdomhoaaDoor
