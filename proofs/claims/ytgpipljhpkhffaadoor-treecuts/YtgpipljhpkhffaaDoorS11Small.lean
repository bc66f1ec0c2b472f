/-
  Contracts of package tree's lying, other, house, standing, vacant, made; fail.At of an error of a number. Conditions: a tree in memory, of at most 900 entries, texts of at most 100000 bytes.
-/
import Derived.Test.YtgpipljhpkhffaaDoorS11Conc
import Derived.Test.YtgpipljhpkhffaaDoorS11Spec
import Derived.Test.YtgpipljhpkhffaaDoorS10TreeC
namespace Go.Proofs.YtgpipljhpkhffaaDoor
open Go.RowKit

theorem er_no11 (w : World) (n : Int) (h : n ≠ 0) : Er w n (.iface 51 (.int .i64 n)) := .inr ⟨h, isErr_no w n⟩
theorem at_er (o p : ByteArray) (n : Int) (v : Value) (w : World) (h : Er w n v) : Calls Tryd.prog 25 #[.string o, .string p, v] w fun e w' => ∃ v', e = .returned v' ∧ Er w' n v' ∧ Below w.heap.size w w' := by
  rcases h with ⟨rfl, rfl⟩ | ⟨h0, h⟩
  · refine (at_nil o p w).mono ?_
    rintro e w' ⟨rfl, rfl⟩
    exact ⟨_, rfl, er_nil _, Below.refl _ _⟩
  · obtain ⟨u, y, rfl⟩ := h.iface
    obtain ⟨l, hl⟩ := h
    refine (at_iface o p u y w).mono ?_
    rintro e w' ⟨rfl, rfl⟩
    exact ⟨_, rfl, .inr ⟨h0, _, chain_at hl o p⟩, (Below.refl _ _).alloc (Nat.le_refl _) _⟩
/-- What lies at a path of a tree; of nothing the kind is 0. -/
def lyE (t : List Ent) (p : List UInt8) : Ent := if p = [47] then (⟨#[47]⟩, 2, ⟨#[]⟩) else (fnd t p).getD (⟨#[]⟩, 0, ⟨#[]⟩)
/-- Why what lies there isn't of a kind; 0: it is. -/
def othV (a k : Int) : Int := if a = k then 0 else if a = 2 then 5 else 6
/-- Why a path is no place of an entry; 0: it is. -/
def hsV (p : List UInt8) : Int := if ¬ isP p then 2 else if p = [47] then 1 else 0
/-- Why there is nothing of a kind at a path; 0: there is. -/
def stV (t : List Ent) (p : List UInt8) (k : Int) : Int := if hsV p ≠ 0 then hsV p else match fnd t p with
  | none => 3
  | some e => othV e.2.1 k
theorem plcV_ly {t : List Ent} (ht : TR t) (p : List UInt8) : plcV t p = if hsV p ≠ 0 then hsV p else if (lyE t (par9 p)).2.1 = 0 then 3 else if (lyE t (par9 p)).2.1 = 1 then 6 else if (lyE t p).2.1 ≠ 0 then 4 else 0 := by
  unfold plcV hsV
  by_cases h1 : isP p
  · rw [if_neg (not_not_intro h1), if_neg (not_not_intro h1)]
    by_cases h2 : p = [47]
    · rw [if_pos h2, if_pos h2]; rfl
    · rw [if_neg h2, if_neg h2]
      have h7 : isP (par9 p) := (par9_isP h1 h2).1
      have hK : ∀ e ∈ t, e.2.1 = 1 ∨ e.2.1 = 2 := fun e he => by
        have := kind_of (ht.1.1 e he)
        have := ht.2 e he
        omega
      have e1 : (fnd t p).isSome = true ↔ (lyE t p).2.1 ≠ 0 := by
        unfold lyE
        rw [if_neg h2]
        cases hf : fnd t p with
        | none => simp
        | some e =>
          obtain ⟨h8, _⟩ := (fnd_some ht.1.2.1).1 hf
          rcases hK e h8 with h | h <;> simp [h]
      have e2 : kdV t (par9 p) = if (lyE t (par9 p)).2.1 = 0 then (3, 0) else (0, (lyE t (par9 p)).2.1) := by
        unfold kdV lyE
        rw [if_neg (not_not_intro h7)]
        by_cases h6 : par9 p = [47]
        · rw [if_pos h6, if_pos h6]; rfl
        · rw [if_neg h6, if_neg h6]
          cases hf : fnd t (par9 p) with
          | none => rfl
          | some e =>
            obtain ⟨h8, _⟩ := (fnd_some ht.1.2.1).1 hf
            rcases hK e h8 with h | h <;> simp [h]
      have e3 : (lyE t (par9 p)).2.1 = 0 ∨ (lyE t (par9 p)).2.1 = 1 ∨ (lyE t (par9 p)).2.1 = 2 := by
        unfold lyE
        by_cases h6 : par9 p = [47]
        · rw [if_pos h6]; simp
        · rw [if_neg h6]
          cases hf : fnd t (par9 p) with
          | none => simp
          | some e =>
            obtain ⟨h8, _⟩ := (fnd_some ht.1.2.1).1 hf
            exact .inr (hK e h8)
      rw [e2]
      by_cases h9 : (lyE t p).2.1 = 0
      · have h10 : ¬ (fnd t p).isSome = true := fun h => e1.1 h h9
        rcases e3 with h | h | h <;> simp [h, h9, h10]
      · have h10 := e1.2 h9
        rcases e3 with h | h | h <;> simp [h, h9, h10]
  · rw [if_pos h1, if_pos h1]; rfl
theorem flV_st {t : List Ent} (ht : TR t) (p : List UInt8) : stV t p 1 = flV t p := by
  unfold stV hsV flV
  by_cases h1 : isP p
  · rw [if_neg (not_not_intro h1), if_neg (not_not_intro h1)]
    by_cases h2 : p = [47]
    · rw [if_pos h2, if_pos h2]; rfl
    · rw [if_neg h2, if_neg h2]
      cases hf : fnd t p with
      | none => rfl
      | some e =>
        obtain ⟨h8, _⟩ := (fnd_some ht.1.2.1).1 hf
        have := kind_of (ht.1.1 e h8)
        have := ht.2 e h8
        have : e.2.1 = 1 ∨ e.2.1 = 2 := by omega
        rcases this with h | h <;> simp [h, othV]
  · rw [if_pos h1, if_pos h1]; rfl
set_option maxRecDepth 10000 in
set_option maxHeartbeats 1000000 in
theorem other11 (x : Ent) (k : Int) (w : World) : Calls Tryd.prog 45 #[enV x, .int .i64 k] w fun e w' => ∃ er, e = .returned er ∧ Er w' (othV x.2.1 k) er ∧ Below w.heap.size w w' := by
  obtain ⟨W, hW⟩ : ∃ W, w.alloc (.cells #[.string x.1, .int .i64 x.2.1, .string x.2.2] 41) = W := ⟨_, rfl⟩
  obtain ⟨N, hN⟩ : ∃ N, w.heap.size = N := ⟨_, rfl⟩
  have HB := Lib.hid (show Below w.heap.size w W by rw [← hW]; exact (Below.refl _ _).alloc (Nat.le_refl _) _)
  have HR := Lib.hid (show EnAt W N x.1 x.2.1 x.2.2 by rw [← hW, ← hN]; exact enAt_new _ _ _ _)
  have c0 := HR.out.c0
  have c1 := HR.out.c1
  have c2 := HR.out.c2
  by_cases h1 : x.2.1 = k
  · have HV := Lib.hid (show othV x.2.1 k = 0 from if_pos h1)
    have g1 : (x.2.1 == k) = true := beq_iff_eq.2 h1
    clear h1
    go_enter Tryd.func45, Tryd.ntmps45
    go_wp2
    go_ret
    exact ⟨_, rfl, by rw [HV.out]; exact er_nil _, HB.out⟩
  · have g1 : (x.2.1 == k) = false := beq_eq_false_iff_ne.2 h1
    by_cases h2 : x.2.1 = 2
    · have HV := Lib.hid (show othV x.2.1 k = 5 by unfold othV; rw [if_neg h1, if_pos h2])
      have g2 : (x.2.1 == 2) = true := beq_iff_eq.2 h2
      clear h1 h2
      go_enter Tryd.func45, Tryd.ntmps45
      go_wp2
      go_ret
      exact ⟨_, rfl, by rw [HV.out]; exact er_no11 _ _ (by decide), HB.out⟩
    · have HV := Lib.hid (show othV x.2.1 k = 6 by unfold othV; rw [if_neg h1, if_neg h2])
      have g2 : (x.2.1 == 2) = false := beq_eq_false_iff_ne.2 h2
      clear h1 h2
      go_enter Tryd.func45, Tryd.ntmps45
      go_wp2
      go_ret
      exact ⟨_, rfl, by rw [HV.out]; exact er_no11 _ _ (by decide), HB.out⟩
theorem results_cell11 {fn : Func} {p : Tmp} {ty : TypeId} (h : fn.results = #[.cell p ty]) (tmps : Array Value) (P : Program) (w : World) :
    (results fn tmps).run P w = ((asAddr (tmps.getD p undef)).run P w).andThen fun a w₁ => (loadVar ty a).run P w₁ := by
  simp only [results, h]
  simp [Sem.run_bind, Result.andThen]
set_option maxRecDepth 10000 in
set_option maxHeartbeats 1000000 in
theorem lying11 (t : List Ent) (a : Option Addr) (cap : Nat) (p : ByteArray) (w : World) (h : Ents w a cap t) (hA : Asc t) (hl : t.length ≤ 1000) :
    Calls Tryd.prog 50 #[.slice a t.length cap, .string p] w fun e w' => e = .returned (enV (lyE t p.data.toList)) ∧ Below w.heap.size w w' := by
  obtain ⟨V, hV⟩ : ∃ V, w.alloc (.cells #[.string ⟨#[]⟩, .int .i64 0, .string ⟨#[]⟩] 41) = V := ⟨_, rfl⟩
  obtain ⟨O, hO⟩ : ∃ O, w.heap.size = O := ⟨_, rfl⟩
  have hb1 : Below w.heap.size w V := by rw [← hV]; exact (Below.refl _ _).alloc (Nat.le_refl _) _
  have HR := Lib.hid (show EnAt V O ⟨#[]⟩ 0 ⟨#[]⟩ by rw [← hV, ← hO]; exact enAt_new _ _ _ _)
  have HOW := Lib.hid (show w.heap.size ≤ O by omega)
  have HB := Lib.hid hb1
  have HE := Lib.hid (RowN.below h hb1)
  have HC := Lib.hid (place11 t a cap p V HE.out hA hl)
  have HPS := Lib.hid (fun x (hx : fnd t p.data.toList = some x) => plc_some hA hx)
  clear h hA hl hb1
  by_cases h1 : p.data.toList = [47]
  · have g1 : (p.toList == [47]) = true := by rw [Lib.toList_data, beq_iff_eq]; exact h1
    have HV := Lib.hid (show lyE t p.data.toList = (⟨#[47]⟩, 2, ⟨#[]⟩) from if_pos h1)
    have r0 := HR.out.c0
    have r1 := HR.out.c1
    have r2 := HR.out.c2
    have f0 := HR.out.f0
    have f1 := HR.out.f1
    have f2 := HR.out.f2
    clear h1
    go_enter Tryd.func50, Tryd.ntmps50
    go_wp2
    have hld := lv_en (HR.out.set ⟨#[47]⟩ 2 ⟨#[]⟩)
    refine bodyPost_ret (v := entV ⟨#[47]⟩ 2 ⟨#[]⟩) ?_ rfl ⟨by rw [HV.out], below_en3 HB.out HOW.out _ _ _⟩
    rw [results_cell11 rfl]
    simp [asAddr, Result.andThen, hld]
  · have g1 : (p.toList == [47]) = false := by rw [Lib.toList_data, beq_eq_false_iff_ne]; exact h1
    have HV := Lib.hid (show lyE t p.data.toList = (fnd t p.data.toList).getD (⟨#[]⟩, 0, ⟨#[]⟩) from if_neg h1)
    clear h1
    cases hf : fnd t p.data.toList with
    | none =>
      rw [hf] at HC HV
      rw [show (none : Option Ent).isSome = false from rfl] at HC
      clear hf
      go_enter Tryd.func50, Tryd.ntmps50
      go_wp2_with fail
      refine (HC.out).mono ?_
      rintro e w1 ⟨rfl, hb⟩
      have HB1 := Lib.hid (HB.out.trans (hb.mono HB.out.size))
      have HR1 := Lib.hid (HR.out.below hb)
      have r0 := HR1.out.c0
      have r1 := HR1.out.c1
      have r2 := HR1.out.c2
      have f0 := HR1.out.f0
      have f1 := HR1.out.f1
      have f2 := HR1.out.f2
      clear hb
      go_wp2
      have hld := lv_en (HR1.out.set ⟨#[]⟩ 0 ⟨#[]⟩)
      refine bodyPost_ret (v := entV ⟨#[]⟩ 0 ⟨#[]⟩) ?_ rfl ⟨by rw [HV.out]; rfl, below_en3 HB1.out HOW.out _ _ _⟩
      rw [results_cell11 rfl]
      simp [asAddr, Result.andThen, hld]
    | some x =>
      rw [hf] at HC HV
      obtain ⟨hk, hx, _⟩ := HPS.out x hf
      rw [show (some x).isSome = true from rfl] at HC
      obtain ⟨K, hK⟩ : ∃ K, plc t p.data.toList = K := ⟨_, rfl⟩
      simp only [hK] at hk hx
      rw [hK] at HC
      have hk' : (K : Int) < (t.length : Int) := by omega
      go_enter Tryd.func50, Tryd.ntmps50
      go_wp2_with fail
      refine (HC.out).mono ?_
      rintro e w1 ⟨rfl, hb⟩
      have HB1 := Lib.hid (HB.out.trans (hb.mono HB.out.size))
      have HR1 := Lib.hid (HR.out.below hb)
      obtain ⟨b, off, rfl, _, hc⟩ := Ents.at HE.out hb hk
      rw [hx] at hc
      have c0 := hc.c0
      have c1 := hc.c1
      have c2 := hc.c2
      have r0 := HR1.out.c0
      have r1 := HR1.out.c1
      have r2 := HR1.out.c2
      have f0 := HR1.out.f0
      have f1 := HR1.out.f1
      have f2 := HR1.out.f2
      clear hb hc hx hf hK HPS
      go_wp2
      have hld := lv_en (HR1.out.set x.1 x.2.1 x.2.2)
      refine bodyPost_ret (v := enV x) ?_ rfl ⟨by rw [HV.out]; rfl, below_en3 HB1.out HOW.out _ _ _⟩
      rw [results_cell11 rfl]
      simp [asAddr, Result.andThen, hld]
set_option maxRecDepth 10000 in
set_option maxHeartbeats 1000000 in
theorem house11 (t : List Ent) (a : Option Addr) (cap : Nat) (p : ByteArray) (w : World) (h : Ents w a cap t) (ht : TreeL t) (hl : t.length ≤ 900) (hp : p.size ≤ 100000) :
    Calls Tryd.prog 48 #[.slice a t.length cap, .string p] w fun e w' => ∃ d er, e = .returned (.tuple #[.string d, er]) ∧ Er w' (hsV p.data.toList) er ∧ (hsV p.data.toList = 0 → d.data.toList = par9 p.data.toList) ∧ Below w.heap.size w w' := by
  have HC := Lib.hid (tree10 t a cap w h (sm_tree ht (by omega)))
  rw [decide_eq_true ht] at HC
  have HP : Hid (∀ W, Calls Tryd.prog 22 #[.string p] W fun e w' => ∃ d n er, e = .returned (.tuple #[.string d, .string n, er]) ∧ Er w' (hsV p.data.toList) er ∧ (hsV p.data.toList = 0 → d.data.toList = par9 p.data.toList) ∧ Below W.heap.size W w') := fun W => by
    by_cases h1 : isP p.data.toList
    · by_cases h2 : p.data.toList = [47]
      · obtain rfl : p = ⟨#[47]⟩ := ba_ext h2
        refine (parent_root W).mono ?_
        rintro e w' ⟨er, rfl, h3, hb⟩
        exact ⟨_, _, er, rfl, .inr ⟨by decide, h3⟩, fun h => absurd h (by decide), hb⟩
      · obtain ⟨ms, x, _, a2, _, a4, a5⟩ := par9_parts h1 h2
        refine (parent_good p ms x h1 a2 a4 h2 W).mono ?_
        have hv : hsV p.data.toList = 0 := by unfold hsV; rw [if_neg (not_not_intro h1), if_neg h2]
        rintro e w' ⟨d, n, rfl, h3, _, hb⟩
        exact ⟨d, n, _, rfl, by rw [hv]; exact er_nil _, fun _ => h3.trans a5.symm, hb⟩
    · have hv : hsV p.data.toList = 2 := if_pos h1
      refine (parent_bad p (by omega) h1 W).mono ?_
      rintro e w' ⟨er, rfl, h3, hb⟩
      exact ⟨_, _, er, rfl, by rw [hv]; exact .inr ⟨by decide, h3⟩, (fun h => by rw [hv] at h; cases h), hb⟩
  clear h ht hl hp
  go_enter Tryd.func48, Tryd.ntmps48
  go_wp2_with fail
  refine (HC.out).mono ?_
  rintro e w1 ⟨rfl, hb⟩
  have HB := Lib.hid hb
  clear hb
  go_wp2_with fail
  refine (HP.out _).mono ?_
  rintro e w2 ⟨d, n, er, rfl, h1, h2, hb⟩
  have HB2 := Lib.hid (HB.out.trans (hb.mono HB.out.size))
  have H1 := Lib.hid h1
  have H2 := Lib.hid h2
  clear hb h1 h2
  go_wp2
  go_ret2
  exact ⟨d, er, rfl, H1.out, H2.out, HB2.out⟩
end Go.Proofs.YtgpipljhpkhffaaDoor
