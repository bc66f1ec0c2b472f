/-
  Contracts of slices.Clone of entries, of package tree's rewritten, Write, Cut, Unlink. Conditions: a tree in memory, of at most 900 entries, texts of at most 100000 bytes.
  Contracts of package tree's under, of slices.ContainsFunc with it, of Rmdir and Rename. Conditions: a tree in memory, of at most 900 entries, texts of at most 100000 bytes.
  The landed code's package tree answers as Tree11 says. No condition beyond Tree11's own.
-/
import Derived.Test.YtgpipljhpkhffaaDoorS11Stand
import Derived.Test.YtgpipljhpkhffaaDoorS11Sized
import Derived.Test.YtgpipljhpkhffaaDoorPb
import Derived.Test.YtgpipljhpkhffaaDoorRowSet
import Derived.Test.YtgpipljhpkhffaaDoorAppStep
import Derived.Lib.SliceRun
import Derived.Deep.RegionHeld3
namespace Go.Proofs.YtgpipljhpkhffaaDoor
open Go.RowKit

set_option maxRecDepth 10000 in
set_option maxHeartbeats 1000000 in
theorem clone11 (t : List Ent) (b off cap : Nat) (w : World) (h : Ents w (some ⟨b, off, none⟩) cap t) (hl : t.length ≤ 1000) :
    Calls Tryd.prog 46 #[.slice (some ⟨b, off, none⟩) t.length cap] w fun e w' => ∃ v, e = .returned v ∧ OwnE w' w.heap.size v t ∧ Below w.heap.size w w' := by
  have HE := Lib.hid h
  have HL := Lib.hid (show ([] : List Ent).length + t.length ≤ 10000 by simp; omega)
  have hnil := fun w => Lib.run_eql_slice_nil (P := Tryd.prog) w 22 41 (some ⟨b, off, none⟩) t.length cap 0 0 Tryd.underlying22
  clear h hl
  go_enter Tryd.func46, Tryd.ntmps46
  go_wp2_with (at_builtin; refine Stopped.go ?_)
  unfold Stopped
  have hb0 : Below w.heap.size w (w.alloc (.cells #[] 41)) := (Below.refl _ _).alloc (Nat.le_refl _) _
  refine wl_catE (by rfl) _ _ (by rfl) w.heap.size _ [] t (by rfl) (ownsE_new w w.heap.size w.heap.size rfl (Nat.le_refl _) 41 3) hb0.size (some ⟨b, off, none⟩) cap (by rfl) (RowN.below HE.out hb0) HL.out ?_
  intro v w1 ho hg
  have HB := Lib.hid (hb0.grown hg hb0.size (fun k hk => by
    obtain rfl : w.heap.size = k := by simpa [Value.ownBlock] using hk
    exact Nat.le_refl _))
  have HO := Lib.hid (show OwnE w1 w.heap.size v t from ho)
  clear ho hg hb0
  go_wp2
  go_ret
  exact ⟨_, rfl, HO.out, HB.out⟩
theorem wth_set {t : List Ent} (h : Asc t) {p o : ByteArray} {x : Ent} (hf : fnd t p.data.toList = some x) (hk : x.2.1 = 1) : wth t (p, 1, o) = t.set (plc t p.data.toList) (x.1, x.2.1, o) := by
  obtain ⟨h1, h2, h3⟩ := plc_some h hf
  rw [wth_old h (e := (p, 1, o)) hf]
  have e1 : x.1 = p := ba_ext h3
  rw [hk, e1, List.set_eq_take_append_cons_drop, if_pos h1]
  rfl
theorem flat_set2 (t : List Ent) (K : Nat) (hK : K < t.length) (o : ByteArray) : (t.set K (t[K].1, t[K].2.1, o)).flatMap enc = (t.flatMap enc).take (K * 3 + 2) ++ [.string o] ++ (t.flatMap enc).drop (K * 3 + 2 + [Value.string o].length) := by
  have hlen : (t.flatMap enc).length = t.length * 3 := flat_len t fun _ _ => rfl
  have hg : ∀ j i, i < 3 → (t.flatMap enc)[j * 3 + i]? = (t[j]?).bind fun e => (enc e)[i]? := fun j i hi => flat_get t j i hi
  obtain ⟨xs, hxs⟩ : ∃ xs, t.flatMap enc = xs := ⟨_, rfl⟩
  rw [hxs] at hlen hg ⊢
  clear hxs
  apply List.ext_getElem?
  intro n
  obtain ⟨j, i, hi, rfl⟩ : ∃ j i, i < 3 ∧ n = j * 3 + i := ⟨n / 3, n % 3, Nat.mod_lt _ (by decide), by omega⟩
  rw [flat_get _ _ _ hi, List.getElem?_set]
  by_cases hj : K = j
  · subst hj
    rw [if_pos rfl, if_pos hK]
    by_cases h2 : i = 2
    · subst h2
      rw [List.getElem?_append_left (by simp; omega), List.getElem?_append_right (by simp; omega)]
      simp only [List.length_take, hlen]
      rw [show K * 3 + 2 - min (K * 3 + 2) (t.length * 3) = 0 by omega]
      rfl
    · rw [List.getElem?_append_left (by simp; omega), List.getElem?_append_left (by simp; omega), List.getElem?_take, if_pos (by omega), hg _ _ hi, List.getElem?_eq_getElem hK]
      have : i = 0 ∨ i = 1 := by omega
      rcases this with rfl | rfl <;> rfl
  · rw [if_neg hj]
    by_cases h1 : j * 3 + i < K * 3 + 2
    · rw [List.getElem?_append_left (by simp; omega), List.getElem?_append_left (by simp; omega), List.getElem?_take, if_pos h1, hg _ _ hi]
    · rw [List.getElem?_append_right (by simp; omega), List.getElem?_drop, ← hg _ _ hi]
      congr 1
      simp
      omega
set_option maxRecDepth 10000 in
set_option maxHeartbeats 4000000 in
/-- With a closure that answers o of the data that lie there. -/
theorem rewrC11 (t : List Ent) (a : Option Addr) (cap : Nat) (p : ByteArray) (fits : Bool) (o : ByteArray) (bn : Nat) (w : World) (h : Ents w a cap t) (ht : TreeL t) (hl : t.length ≤ 900) (hp : p.size ≤ 100000)
    (hc : ∀ W, Below w.heap.size w W → fits = true → flV t p.data.toList = 0 → Calls Tryd.prog 37 (#[.string (datV t p.data.toList)] ++ #[.pointer (some ⟨bn, 0, none⟩)]) W fun e w' => e = .returned (.string o) ∧ Below W.heap.size W w') :
    Calls Tryd.prog 28 #[.slice a t.length cap, .string p, .bool fits, .func (.func 37) #[] #[.pointer (some ⟨bn, 0, none⟩)]] w (Ans11 (if flV t p.data.toList ≠ 0 then (flV t p.data.toList, []) else if fits = false then (15, []) else (0, wth t (p, 1, o))) w) := by
  have HE := Lib.hid h
  have HC := Lib.hid (standing11 t a cap p 1 w h ht hl hp)
  rw [flV_st ht.2] at HC
  have HT := Lib.hid ht
  have HL := Lib.hid hl
  have HCB := Lib.hid hc
  obtain ⟨r, hr⟩ : ∃ r, (if flV t p.data.toList ≠ 0 then (flV t p.data.toList, []) else if fits = false then (15, []) else (0, wth t (p, 1, o)) : Int × List Ent) = r := ⟨_, rfl⟩
  have HR := Lib.hid hr
  rw [hr]
  clear h ht hl hp hc hr
  go_enter Tryd.func28, Tryd.ntmps28
  go_wp2_with fail
  refine (HC.out).mono ?_
  rintro e w1 ⟨i, er, rfl, her, hi, hb⟩
  have HB1 := Lib.hid hb
  have HE1 := Lib.hid (RowN.below HE.out hb)
  clear hb
  rcases her with ⟨h0, rfl⟩ | ⟨h0, herr⟩
  · have hi := hi h0
    obtain ⟨-, -, x, hx1, hx2, hx3, hx4, hx5⟩ := flV_ok HT.out.2 h0
    have HF0 := Lib.hid h0
    have HWS := Lib.hid (wth_set (o := o) HT.out.2.1.2.1 hx4 hx3)
    obtain ⟨K, hK⟩ : ∃ K, plc t p.data.toList = K := ⟨_, rfl⟩
    obtain ⟨hk, hxk⟩ : ∃ hk : K < t.length, t[K] = x := by
      obtain ⟨h1, h2, _⟩ := plc_some HT.out.2.1.2.1 hx4
      subst hK
      exact ⟨h1, h2⟩
    rw [hK] at hi HWS
    subst hi
    cases fits with
    | false =>
      have HV := Lib.hid (show r = (15, []) by rw [← HR.out, if_neg (not_not_intro h0), if_pos rfl])
      clear h0 hx1 hx2 hx3 hx4 hx5 hxk
      go_wp2
      go_ret2
      exact ⟨none, 0, .iface 51 (.int .i64 15), by rw [HV.out]; rfl, by rw [HV.out]; exact ents_nil _ _ _, by rw [HV.out]; exact er_no11 _ _ (by decide), HB1.out⟩
    | true =>
      have HV := Lib.hid (show r = (0, t.set K (x.1, x.2.1, o)) by rw [← HR.out, if_neg (not_not_intro h0), if_neg (by decide), HWS.out])
      obtain ⟨b, off, rfl, _, _⟩ := Ents.at HE1.out (Below.refl _ _) hk
      have HCL := Lib.hid (clone11 t b off cap w1 HE1.out (by have := HL.out; omega))
      have HX := Lib.hid hxk
      have HDV := Lib.hid hx5
      have hk' : (K : Int) < (t.length : Int) := by omega
      clear h0 hx1 hx2 hx3 hx4 hx5 hxk hK
      go_wp2_with fail
      refine (HCL.out).mono ?_
      rintro e w2 ⟨v, rfl, ho, hb⟩
      have HB2 := Lib.hid (HB1.out.trans (hb.mono HB1.out.size))
      have HSZ := Lib.hid (Nat.le_trans HB1.out.size hb.size)
      clear hb
      obtain ⟨hol, ⟨rfl, h9⟩ | ⟨g, cp, cur, rfl, hg, hbk, hcp, hm2, hsz, htk⟩⟩ := ho
      · omega
      · have HO := Lib.hid (show OwnE w2 w1.heap.size (.slice (some ⟨g, 0, none⟩) t.length cp) t from ⟨hol, .inr ⟨g, cp, cur, rfl, hg, hbk, hcp, hm2, hsz, htk⟩⟩)
        have HG := Lib.hid (show g < w2.heap.size from (Array.getElem?_eq_some_iff.1 hbk).1)
        have HWG := Lib.hid (show w.heap.size ≤ g from Nat.le_trans HB1.out.size hg)
        have hget : ∀ j, j < 3 → cur[K * 3 + j]? = (enc x)[j]? := fun j hj => by
          have h1 := flat_get t K j hj
          rw [List.getElem?_eq_getElem hk, HX.out, Option.bind_some, ← htk, List.getElem?_take_of_lt (by omega), Array.getElem?_toList] at h1
          exact h1
        have c0 : w2.cell? ⟨g, K * 3, none⟩ = some (.string x.1) := (cell_of8 hbk (hget 0 (by decide))).1
        have c1 : w2.cell? ⟨g, K * 3 + 1, none⟩ = some (.int .i64 x.2.1) := (cell_of8 hbk (hget 1 (by decide))).1
        have c2 : w2.cell? ⟨g, K * 3 + 2, none⟩ = some (.string x.2.2) := (cell_of8 hbk (hget 2 (by decide))).1
        have HKS : Hid (∀ X, Below w2.heap.size w2 X → X.cell? ⟨g, K * 3 + 2, none⟩ = some (.string x.2.2) ∧ X.frozen? ⟨g, K * 3 + 2, none⟩ = false) := fun X hX => cell_of8 ((hX.block g HG.out).trans hbk) (hget 2 (by decide))
        have HCL2 : Hid (∀ X, Below w2.heap.size w2 X → Calls Tryd.prog 37 (#[.string x.2.2] ++ #[.pointer (some ⟨bn, 0, none⟩)]) X fun e w' => e = .returned (.string o) ∧ Below w2.heap.size w2 w') := fun X hX => by
          rw [← HDV.out]
          refine (HCB.out X (HB2.out.trans (hX.mono HB2.out.size)) (by simp) HF0.out).mono ?_
          rintro e w' ⟨rfl, hb⟩
          exact ⟨rfl, hX.trans (hb.mono hX.size)⟩
        have hkc : (K : Int) < (cp : Int) := by omega
        clear hget htk hsz hm2 hcp hbk hg hol c0 c1
        go_wp2_with fail
        refine (HCL2.out _ (Below.refl _ _)).mono ?_
        rintro e w4 ⟨rfl, hB4⟩
        have HK4 := Lib.hid (HKS.out w4 hB4)
        clear c2
        have c2 := HK4.out.1
        have f2 := HK4.out.2
        have HB4 := Lib.hid ((HB2.out.trans (hB4.mono HB2.out.size)).setCell (p := ⟨g, K * 3 + 2, none⟩) HWG.out (.string o))
        have HO4 : Hid (OwnE (w4.setCell ⟨g, K * 3 + 2, none⟩ (.string o)) w1.heap.size (.slice (some ⟨g, 0, none⟩) t.length cp) (t.set K (x.1, x.2.1, o))) := by
          have h1 := OwnE.below HO.out hB4
          have h2 := owns_put h1 (K * 3 + 2) [.string o] (by simp; omega)
          have h3 := flat_set2 t K hk o
          rw [HX.out] at h3
          rw [← h3] at h2
          have h4 : (t.set K (x.1, x.2.1, o)).length = t.length := List.length_set ..
          unfold Hid OwnE
          rw [h4]
          exact h2
        clear hB4
        go_wp2
        go_ret2
        obtain ⟨a5, cap5, e5, h5⟩ := ents_of_own HO4.out
        exact ⟨a5, cap5, .nilIface, by rw [HV.out]; exact congrArg (fun z => Ending.returned (.tuple #[z, .nilIface])) e5, by rw [HV.out]; exact h5, by rw [HV.out]; exact er_nil _, HB4.out⟩
  · have HV := Lib.hid (show r = (flV t p.data.toList, []) by rw [← HR.out, if_pos h0])
    obtain ⟨u, y, rfl⟩ := herr.iface
    have HER := Lib.hid herr
    have H0 := Lib.hid h0
    clear herr h0 hi
    go_wp2
    go_ret2
    exact ⟨none, 0, _, by rw [HV.out]; rfl, by rw [HV.out]; exact ents_nil _ _ _, by rw [HV.out]; exact .inr ⟨H0.out, HER.out⟩, HB1.out⟩
set_option maxRecDepth 10000 in
set_option maxHeartbeats 4000000 in
/-- With a closure that answers o of the data that lie there. -/
theorem rewrW11 (t : List Ent) (a : Option Addr) (cap : Nat) (p : ByteArray) (fits : Bool) (o : ByteArray) (bn bs : Nat) (w : World) (h : Ents w a cap t) (ht : TreeL t) (hl : t.length ≤ 900) (hp : p.size ≤ 100000)
    (hc : ∀ W, Below w.heap.size w W → fits = true → flV t p.data.toList = 0 → Calls Tryd.prog 29 (#[.string (datV t p.data.toList)] ++ #[.pointer (some ⟨bn, 0, none⟩), .pointer (some ⟨bs, 0, none⟩)]) W fun e w' => e = .returned (.string o) ∧ Below W.heap.size W w') :
    Calls Tryd.prog 28 #[.slice a t.length cap, .string p, .bool fits, .func (.func 29) #[] #[.pointer (some ⟨bn, 0, none⟩), .pointer (some ⟨bs, 0, none⟩)]] w (Ans11 (if flV t p.data.toList ≠ 0 then (flV t p.data.toList, []) else if fits = false then (15, []) else (0, wth t (p, 1, o))) w) := by
  have HE := Lib.hid h
  have HC := Lib.hid (standing11 t a cap p 1 w h ht hl hp)
  rw [flV_st ht.2] at HC
  have HT := Lib.hid ht
  have HL := Lib.hid hl
  have HCB := Lib.hid hc
  obtain ⟨r, hr⟩ : ∃ r, (if flV t p.data.toList ≠ 0 then (flV t p.data.toList, []) else if fits = false then (15, []) else (0, wth t (p, 1, o)) : Int × List Ent) = r := ⟨_, rfl⟩
  have HR := Lib.hid hr
  rw [hr]
  clear h ht hl hp hc hr
  go_enter Tryd.func28, Tryd.ntmps28
  go_wp2_with fail
  refine (HC.out).mono ?_
  rintro e w1 ⟨i, er, rfl, her, hi, hb⟩
  have HB1 := Lib.hid hb
  have HE1 := Lib.hid (RowN.below HE.out hb)
  clear hb
  rcases her with ⟨h0, rfl⟩ | ⟨h0, herr⟩
  · have hi := hi h0
    obtain ⟨-, -, x, hx1, hx2, hx3, hx4, hx5⟩ := flV_ok HT.out.2 h0
    have HF0 := Lib.hid h0
    have HWS := Lib.hid (wth_set (o := o) HT.out.2.1.2.1 hx4 hx3)
    obtain ⟨K, hK⟩ : ∃ K, plc t p.data.toList = K := ⟨_, rfl⟩
    obtain ⟨hk, hxk⟩ : ∃ hk : K < t.length, t[K] = x := by
      obtain ⟨h1, h2, _⟩ := plc_some HT.out.2.1.2.1 hx4
      subst hK
      exact ⟨h1, h2⟩
    rw [hK] at hi HWS
    subst hi
    cases fits with
    | false =>
      have HV := Lib.hid (show r = (15, []) by rw [← HR.out, if_neg (not_not_intro h0), if_pos rfl])
      clear h0 hx1 hx2 hx3 hx4 hx5 hxk
      go_wp2
      go_ret2
      exact ⟨none, 0, .iface 51 (.int .i64 15), by rw [HV.out]; rfl, by rw [HV.out]; exact ents_nil _ _ _, by rw [HV.out]; exact er_no11 _ _ (by decide), HB1.out⟩
    | true =>
      have HV := Lib.hid (show r = (0, t.set K (x.1, x.2.1, o)) by rw [← HR.out, if_neg (not_not_intro h0), if_neg (by decide), HWS.out])
      obtain ⟨b, off, rfl, _, _⟩ := Ents.at HE1.out (Below.refl _ _) hk
      have HCL := Lib.hid (clone11 t b off cap w1 HE1.out (by have := HL.out; omega))
      have HX := Lib.hid hxk
      have HDV := Lib.hid hx5
      have hk' : (K : Int) < (t.length : Int) := by omega
      clear h0 hx1 hx2 hx3 hx4 hx5 hxk hK
      go_wp2_with fail
      refine (HCL.out).mono ?_
      rintro e w2 ⟨v, rfl, ho, hb⟩
      have HB2 := Lib.hid (HB1.out.trans (hb.mono HB1.out.size))
      have HSZ := Lib.hid (Nat.le_trans HB1.out.size hb.size)
      clear hb
      obtain ⟨hol, ⟨rfl, h9⟩ | ⟨g, cp, cur, rfl, hg, hbk, hcp, hm2, hsz, htk⟩⟩ := ho
      · omega
      · have HO := Lib.hid (show OwnE w2 w1.heap.size (.slice (some ⟨g, 0, none⟩) t.length cp) t from ⟨hol, .inr ⟨g, cp, cur, rfl, hg, hbk, hcp, hm2, hsz, htk⟩⟩)
        have HG := Lib.hid (show g < w2.heap.size from (Array.getElem?_eq_some_iff.1 hbk).1)
        have HWG := Lib.hid (show w.heap.size ≤ g from Nat.le_trans HB1.out.size hg)
        have hget : ∀ j, j < 3 → cur[K * 3 + j]? = (enc x)[j]? := fun j hj => by
          have h1 := flat_get t K j hj
          rw [List.getElem?_eq_getElem hk, HX.out, Option.bind_some, ← htk, List.getElem?_take_of_lt (by omega), Array.getElem?_toList] at h1
          exact h1
        have c0 : w2.cell? ⟨g, K * 3, none⟩ = some (.string x.1) := (cell_of8 hbk (hget 0 (by decide))).1
        have c1 : w2.cell? ⟨g, K * 3 + 1, none⟩ = some (.int .i64 x.2.1) := (cell_of8 hbk (hget 1 (by decide))).1
        have c2 : w2.cell? ⟨g, K * 3 + 2, none⟩ = some (.string x.2.2) := (cell_of8 hbk (hget 2 (by decide))).1
        have HKS : Hid (∀ X, Below w2.heap.size w2 X → X.cell? ⟨g, K * 3 + 2, none⟩ = some (.string x.2.2) ∧ X.frozen? ⟨g, K * 3 + 2, none⟩ = false) := fun X hX => cell_of8 ((hX.block g HG.out).trans hbk) (hget 2 (by decide))
        have HCL2 : Hid (∀ X, Below w2.heap.size w2 X → Calls Tryd.prog 29 (#[.string x.2.2] ++ #[.pointer (some ⟨bn, 0, none⟩), .pointer (some ⟨bs, 0, none⟩)]) X fun e w' => e = .returned (.string o) ∧ Below w2.heap.size w2 w') := fun X hX => by
          rw [← HDV.out]
          refine (HCB.out X (HB2.out.trans (hX.mono HB2.out.size)) (by simp) HF0.out).mono ?_
          rintro e w' ⟨rfl, hb⟩
          exact ⟨rfl, hX.trans (hb.mono hX.size)⟩
        have hkc : (K : Int) < (cp : Int) := by omega
        clear hget htk hsz hm2 hcp hbk hg hol c0 c1
        go_wp2_with fail
        refine (HCL2.out _ (Below.refl _ _)).mono ?_
        rintro e w4 ⟨rfl, hB4⟩
        have HK4 := Lib.hid (HKS.out w4 hB4)
        clear c2
        have c2 := HK4.out.1
        have f2 := HK4.out.2
        have HB4 := Lib.hid ((HB2.out.trans (hB4.mono HB2.out.size)).setCell (p := ⟨g, K * 3 + 2, none⟩) HWG.out (.string o))
        have HO4 : Hid (OwnE (w4.setCell ⟨g, K * 3 + 2, none⟩ (.string o)) w1.heap.size (.slice (some ⟨g, 0, none⟩) t.length cp) (t.set K (x.1, x.2.1, o))) := by
          have h1 := OwnE.below HO.out hB4
          have h2 := owns_put h1 (K * 3 + 2) [.string o] (by simp; omega)
          have h3 := flat_set2 t K hk o
          rw [HX.out] at h3
          rw [← h3] at h2
          have h4 : (t.set K (x.1, x.2.1, o)).length = t.length := List.length_set ..
          unfold Hid OwnE
          rw [h4]
          exact h2
        clear hB4
        go_wp2
        go_ret2
        obtain ⟨a5, cap5, e5, h5⟩ := ents_of_own HO4.out
        exact ⟨a5, cap5, .nilIface, by rw [HV.out]; exact congrArg (fun z => Ending.returned (.tuple #[z, .nilIface])) e5, by rw [HV.out]; exact h5, by rw [HV.out]; exact er_nil _, HB4.out⟩
  · have HV := Lib.hid (show r = (flV t p.data.toList, []) by rw [← HR.out, if_pos h0])
    obtain ⟨u, y, rfl⟩ := herr.iface
    have HER := Lib.hid herr
    have H0 := Lib.hid h0
    clear herr h0 hi
    go_wp2
    go_ret2
    exact ⟨none, 0, _, by rw [HV.out]; rfl, by rw [HV.out]; exact ents_nil _ _ _, by rw [HV.out]; exact .inr ⟨H0.out, HER.out⟩, HB1.out⟩
theorem datsz11 {t : List Ent} (ht : TreeL t) (p : List UInt8) : (datV t p).size ≤ 256 := by
  unfold datV
  cases hf : fnd t p with
  | none => show 0 ≤ 256; omega
  | some e =>
    obtain ⟨h8, _⟩ := (fnd_some ht.2.1.2.1).1 hf
    exact (rightE_parts (ht.2.1.1 e h8)).2.2.2.1
theorem wrV_rw {t : List Ent} {p s : ByteArray} {n : Int} (fits : Bool) (h : fits = !decide (n < 0 ∨ 256 < n + s.size)) : (if flV t p.data.toList ≠ 0 then (flV t p.data.toList, []) else if fits = false then (15, []) else (0, wth t (p, 1, ⟨(wrtL (datV t p.data.toList).data.toList n.toNat s.data.toList).toArray⟩)) : Int × List Ent) = wrV t p n s := by
  unfold wrV
  subst h
  by_cases h : n < 0 ∨ 256 < n + s.size
  · simp [h]
  · simp [h]
theorem ctV_rw {t : List Ent} {p : ByteArray} {n : Int} (fits : Bool) (h : fits = !decide (n < 0 ∨ 256 < n)) : (if flV t p.data.toList ≠ 0 then (flV t p.data.toList, []) else if fits = false then (15, []) else (0, wth t (p, 1, ⟨(padL (datV t p.data.toList).data.toList n.toNat).toArray⟩)) : Int × List Ent) = ctV t p n := by
  unfold ctV
  subst h
  by_cases h : n < 0 ∨ 256 < n
  · simp [h]
  · simp [h]
set_option maxRecDepth 10000 in
set_option maxHeartbeats 4000000 in
theorem write11 (t : List Ent) (a : Option Addr) (cap : Nat) (p : ByteArray) (n : Int) (s : ByteArray) (w : World) (h : Ents w a cap t) (ht : TreeL t) (hl : t.length ≤ 900) (hp : p.size ≤ 100000) (hn : -9223372036854775808 ≤ n ∧ n ≤ 9223372036854775807) (hs : s.size ≤ 100000) :
    Calls Tryd.prog 12 #[.slice a t.length cap, .string p, .int .i64 n, .string s] w (Ans11 (wrV t p n s) w) := by
  obtain ⟨W1, hW1⟩ : ∃ W, w.alloc (.cells #[.int .i64 n] 3) = W := ⟨_, rfl⟩
  obtain ⟨bn, hbn⟩ : ∃ N, w.heap.size = N := ⟨_, rfl⟩
  obtain ⟨V, hV⟩ : ∃ W, W1.alloc (.cells #[.string s] 9) = W := ⟨_, rfl⟩
  obtain ⟨bs, hbs⟩ : ∃ N, W1.heap.size = N := ⟨_, rfl⟩
  have hb0 : Below w.heap.size w W1 := by rw [← hW1]; exact (Below.refl _ _).alloc (Nat.le_refl _) _
  have hb1 : Below W1.heap.size W1 V := by rw [← hV]; exact (Below.refl _ _).alloc (Nat.le_refl _) _
  have hlt : bn < W1.heap.size := by rw [← hW1, ← hbn]; simp
  have cn : V.cell? ⟨bn, 0, none⟩ = some (.int .i64 n) := (hb1.cell (p := ⟨bn, 0, none⟩) hlt).trans (by rw [← hW1, ← hbn]; simp)
  have cs : V.cell? ⟨bs, 0, none⟩ = some (.string s) := by rw [← hV, ← hbs]; simp
  have HB0 := Lib.hid (hb0.trans (hb1.mono hb0.size))
  have hl1 : bn < V.heap.size := Nat.lt_of_lt_of_le hlt hb1.size
  have hl2 : bs < V.heap.size := by rw [← hV, ← hbs]; simp
  have HA := Lib.hid (fun o n v W h => at_er o p n v W h)
  have hmf : ∀ (fn : Fn) (first cap : Array Value) (w : World), (Instr.makeFunc fn first cap).run Tryd.prog w = .ok (.func fn first cap) w := fun _ _ _ _ => rfl
  have hw : IntKind.i64.wrap (256 - (s.size : Int)) = 256 - (s.size : Int) := IntWalk.i64_in _ (by omega)
  have key : ∀ fits : Bool, fits = !decide (n < 0 ∨ 256 < n + s.size) → Calls Tryd.prog 28 #[.slice a t.length cap, .string p, .bool fits, .func (.func 29) #[] #[.pointer (some ⟨bn, 0, none⟩), .pointer (some ⟨bs, 0, none⟩)]] V (Ans11 (wrV t p n s) V) := fun fits hf => by
    rw [← wrV_rw fits hf]
    refine rewrW11 t a cap p fits _ bn bs V (RowN.below h HB0.out) ht hl hp fun W hW hft h0 => ?_
    rw [hft] at hf
    have h1 : ¬ (n < 0 ∨ 256 < n + s.size) := fun hc => by rw [decide_eq_true hc] at hf; cases hf
    have h2 : ¬ n < 0 := fun hc => h1 (.inl hc)
    have h3 : ¬ 256 < n + s.size := fun hc => h1 (.inr hc)
    have hds := datsz11 ht p.data.toList
    exact wclo11 _ s n.toNat bn bs W ((hW.cell (p := ⟨bn, 0, none⟩) hl1).trans (by rw [show ((n.toNat : Nat) : Int) = n by omega]; exact cn)) ((hW.cell (p := ⟨bs, 0, none⟩) hl2).trans cs) (by omega) (by omega)
  obtain ⟨r, hr⟩ : ∃ r, wrV t p n s = r := ⟨_, rfl⟩
  rw [hr] at key ⊢
  have KEY := Lib.hid key
  clear h ht hl hp hb0 hb1 hlt hl1 hl2 key hr
  by_cases h1 : 0 ≤ n
  · by_cases h2 : n ≤ 256 - (s.size : Int)
    · have HC := Lib.hid (KEY.out true (by rw [decide_eq_false (by omega)]; rfl))
      go_enter Tryd.func12, Tryd.ntmps12
      go_wp2_with fail
      refine (HC.out).mono ?_
      rintro e w1 ⟨a', cap', er, rfl, h1, her, hb⟩
      have HB1 := Lib.hid (HB0.out.trans (hb.mono HB0.out.size))
      have H1 := Lib.hid h1
      have HER := Lib.hid her
      clear hb h1 her
      go_wp2_with fail
      refine (HA.out _ _ _ _ HER.out).mono ?_
      rintro e w2 ⟨er2, rfl, her, hb⟩
      have HB2 := Lib.hid (HB1.out.trans (hb.mono HB1.out.size))
      have H2 := Lib.hid (RowN.below H1.out hb)
      have HER2 := Lib.hid her
      clear hb her
      go_wp2
      go_ret2
      exact ⟨a', cap', er2, rfl, H2.out, HER2.out, HB2.out⟩
    · have HC := Lib.hid (KEY.out false (by rw [decide_eq_true (by omega)]; rfl))
      go_enter Tryd.func12, Tryd.ntmps12
      go_wp2_with fail
      refine (HC.out).mono ?_
      rintro e w1 ⟨a', cap', er, rfl, h1, her, hb⟩
      have HB1 := Lib.hid (HB0.out.trans (hb.mono HB0.out.size))
      have H1 := Lib.hid h1
      have HER := Lib.hid her
      clear hb h1 her
      go_wp2_with fail
      refine (HA.out _ _ _ _ HER.out).mono ?_
      rintro e w2 ⟨er2, rfl, her, hb⟩
      have HB2 := Lib.hid (HB1.out.trans (hb.mono HB1.out.size))
      have H2 := Lib.hid (RowN.below H1.out hb)
      have HER2 := Lib.hid her
      clear hb her
      go_wp2
      go_ret2
      exact ⟨a', cap', er2, rfl, H2.out, HER2.out, HB2.out⟩
  · have HC := Lib.hid (KEY.out false (by rw [decide_eq_true (by omega)]; rfl))
    go_enter Tryd.func12, Tryd.ntmps12
    go_wp2_with fail
    refine (HC.out).mono ?_
    rintro e w1 ⟨a', cap', er, rfl, h1, her, hb⟩
    have HB1 := Lib.hid (HB0.out.trans (hb.mono HB0.out.size))
    have H1 := Lib.hid h1
    have HER := Lib.hid her
    clear hb h1 her
    go_wp2_with fail
    refine (HA.out _ _ _ _ HER.out).mono ?_
    rintro e w2 ⟨er2, rfl, her, hb⟩
    have HB2 := Lib.hid (HB1.out.trans (hb.mono HB1.out.size))
    have H2 := Lib.hid (RowN.below H1.out hb)
    have HER2 := Lib.hid her
    clear hb her
    go_wp2
    go_ret2
    exact ⟨a', cap', er2, rfl, H2.out, HER2.out, HB2.out⟩
set_option maxRecDepth 10000 in
set_option maxHeartbeats 4000000 in
theorem cut11 (t : List Ent) (a : Option Addr) (cap : Nat) (p : ByteArray) (n : Int) (w : World) (h : Ents w a cap t) (ht : TreeL t) (hl : t.length ≤ 900) (hp : p.size ≤ 100000) (hn : -9223372036854775808 ≤ n ∧ n ≤ 9223372036854775807) :
    Calls Tryd.prog 18 #[.slice a t.length cap, .string p, .int .i64 n] w (Ans11 (ctV t p n) w) := by
  obtain ⟨V, hV⟩ : ∃ W, w.alloc (.cells #[.int .i64 n] 3) = W := ⟨_, rfl⟩
  obtain ⟨bn, hbn⟩ : ∃ N, w.heap.size = N := ⟨_, rfl⟩
  have hb0 : Below w.heap.size w V := by rw [← hV]; exact (Below.refl _ _).alloc (Nat.le_refl _) _
  have cn : V.cell? ⟨bn, 0, none⟩ = some (.int .i64 n) := by rw [← hV, ← hbn]; simp
  have HB0 := Lib.hid hb0
  have hl1 : bn < V.heap.size := by rw [← hV, ← hbn]; simp
  have HA := Lib.hid (fun o n v W h => at_er o p n v W h)
  have hmf : ∀ (fn : Fn) (first cap : Array Value) (w : World), (Instr.makeFunc fn first cap).run Tryd.prog w = .ok (.func fn first cap) w := fun _ _ _ _ => rfl
  have key : ∀ fits : Bool, fits = !decide (n < 0 ∨ 256 < n) → Calls Tryd.prog 28 #[.slice a t.length cap, .string p, .bool fits, .func (.func 37) #[] #[.pointer (some ⟨bn, 0, none⟩)]] V (Ans11 (ctV t p n) V) := fun fits hf => by
    rw [← ctV_rw fits hf]
    refine rewrC11 t a cap p fits _ bn V (RowN.below h HB0.out) ht hl hp fun W hW hft h0 => ?_
    rw [hft] at hf
    have h1 : ¬ (n < 0 ∨ 256 < n) := fun hc => by rw [decide_eq_true hc] at hf; cases hf
    have hds := datsz11 ht p.data.toList
    exact cclo11 _ n.toNat bn W ((hW.cell (p := ⟨bn, 0, none⟩) hl1).trans (by rw [show ((n.toNat : Nat) : Int) = n by omega]; exact cn)) (by omega) (by omega)
  obtain ⟨r, hr⟩ : ∃ r, ctV t p n = r := ⟨_, rfl⟩
  rw [hr] at key ⊢
  have KEY := Lib.hid key
  clear h ht hl hp hb0 hl1 key hr
  by_cases h1 : 0 ≤ n
  · by_cases h2 : n ≤ 256
    · have HC := Lib.hid (KEY.out true (by rw [decide_eq_false (by omega)]; rfl))
      go_enter Tryd.func18, Tryd.ntmps18
      go_wp2_with fail
      refine (HC.out).mono ?_
      rintro e w1 ⟨a', cap', er, rfl, h1, her, hb⟩
      have HB1 := Lib.hid (HB0.out.trans (hb.mono HB0.out.size))
      have H1 := Lib.hid h1
      have HER := Lib.hid her
      clear hb h1 her
      go_wp2_with fail
      refine (HA.out _ _ _ _ HER.out).mono ?_
      rintro e w2 ⟨er2, rfl, her, hb⟩
      have HB2 := Lib.hid (HB1.out.trans (hb.mono HB1.out.size))
      have H2 := Lib.hid (RowN.below H1.out hb)
      have HER2 := Lib.hid her
      clear hb her
      go_wp2
      go_ret2
      exact ⟨a', cap', er2, rfl, H2.out, HER2.out, HB2.out⟩
    · have HC := Lib.hid (KEY.out false (by rw [decide_eq_true (by omega)]; rfl))
      go_enter Tryd.func18, Tryd.ntmps18
      go_wp2_with fail
      refine (HC.out).mono ?_
      rintro e w1 ⟨a', cap', er, rfl, h1, her, hb⟩
      have HB1 := Lib.hid (HB0.out.trans (hb.mono HB0.out.size))
      have H1 := Lib.hid h1
      have HER := Lib.hid her
      clear hb h1 her
      go_wp2_with fail
      refine (HA.out _ _ _ _ HER.out).mono ?_
      rintro e w2 ⟨er2, rfl, her, hb⟩
      have HB2 := Lib.hid (HB1.out.trans (hb.mono HB1.out.size))
      have H2 := Lib.hid (RowN.below H1.out hb)
      have HER2 := Lib.hid her
      clear hb her
      go_wp2
      go_ret2
      exact ⟨a', cap', er2, rfl, H2.out, HER2.out, HB2.out⟩
  · have HC := Lib.hid (KEY.out false (by rw [decide_eq_true (by omega)]; rfl))
    go_enter Tryd.func18, Tryd.ntmps18
    go_wp2_with fail
    refine (HC.out).mono ?_
    rintro e w1 ⟨a', cap', er, rfl, h1, her, hb⟩
    have HB1 := Lib.hid (HB0.out.trans (hb.mono HB0.out.size))
    have H1 := Lib.hid h1
    have HER := Lib.hid her
    clear hb h1 her
    go_wp2_with fail
    refine (HA.out _ _ _ _ HER.out).mono ?_
    rintro e w2 ⟨er2, rfl, her, hb⟩
    have HB2 := Lib.hid (HB1.out.trans (hb.mono HB1.out.size))
    have H2 := Lib.hid (RowN.below H1.out hb)
    have HER2 := Lib.hid her
    clear hb her
    go_wp2
    go_ret2
    exact ⟨a', cap', er2, rfl, H2.out, HER2.out, HB2.out⟩
set_option maxRecDepth 10000 in
set_option maxHeartbeats 2000000 in
theorem unlink11 (t : List Ent) (a : Option Addr) (cap : Nat) (p : ByteArray) (w : World) (h : Ents w a cap t) (ht : TreeL t) (hl : t.length ≤ 900) (hp : p.size ≤ 100000) :
    Calls Tryd.prog 14 #[.slice a t.length cap, .string p] w (Ans11 (ulV t p.data.toList) w) := by
  have HE := Lib.hid h
  have HC := Lib.hid (standing11 t a cap p 1 w h ht hl hp)
  rw [flV_st ht.2] at HC
  have HT := Lib.hid ht
  have HL := Lib.hid hl
  have HA := Lib.hid (fun o n v W h => at_er o p n v W h)
  obtain ⟨r, hr⟩ : ∃ r, ulV t p.data.toList = r := ⟨_, rfl⟩
  have HR : Hid (r = if flV t p.data.toList ≠ 0 then (flV t p.data.toList, []) else (0, wout t p.data.toList)) := hr.symm
  rw [hr]
  clear h ht hl hp hr
  go_enter Tryd.func14, Tryd.ntmps14
  go_wp2_with fail
  refine (HC.out).mono ?_
  rintro e w1 ⟨i, er, rfl, her, hi, hb⟩
  have HB1 := Lib.hid hb
  have HE1 := Lib.hid (RowN.below HE.out hb)
  clear hb
  rcases her with ⟨h0, rfl⟩ | ⟨h0, herr⟩
  · have HV := Lib.hid (show r = (0, wout t p.data.toList) by rw [HR.out, if_neg (not_not_intro h0)])
    obtain ⟨-, -, x, hx1, hx2, hx3, hx4, hx5⟩ := flV_ok HT.out.2 h0
    have HW := Lib.hid (without11 t a cap p.data.toList x w1 HE1.out HT.out.2.1.2.1 (by have := HL.out; omega) hx4)
    have hi := hi h0
    subst hi
    clear h0 hx1 hx2 hx3 hx4 hx5
    go_wp2_with fail
    refine (HW.out).mono ?_
    rintro e w2 ⟨a', cap', rfl, h2, hb⟩
    have HB2 := Lib.hid (HB1.out.trans (hb.mono HB1.out.size))
    have H2 := Lib.hid h2
    clear hb h2
    go_wp2
    go_ret2
    exact ⟨a', cap', .nilIface, by rw [HV.out]; rfl, by rw [HV.out]; exact H2.out, by rw [HV.out]; exact er_nil _, HB2.out⟩
  · have HV := Lib.hid (show r = (flV t p.data.toList, []) by rw [HR.out, if_pos h0])
    obtain ⟨u, y, rfl⟩ := herr.iface
    have HER := Lib.hid (show Er w1 (flV t p.data.toList) (.iface u y) from .inr ⟨h0, herr⟩)
    clear herr h0 hi
    go_wp2_with fail
    refine (HA.out _ _ _ _ HER.out).mono ?_
    rintro e w2 ⟨er2, rfl, her, hb⟩
    have HB2 := Lib.hid (HB1.out.trans (hb.mono HB1.out.size))
    have HER2 := Lib.hid her
    clear hb her
    go_wp2
    go_ret2
    exact ⟨none, 0, er2, by rw [HV.out]; rfl, by rw [HV.out]; exact ents_nil _ _ _, by rw [HV.out]; exact HER2.out, HB2.out⟩
end Go.Proofs.YtgpipljhpkhffaaDoor

namespace Go.Proofs.YtgpipljhpkhffaaDoor
open Go.RowKit

set_option maxRecDepth 10000 in
set_option maxHeartbeats 1000000 in
theorem uclo11 (x : Ent) (p : ByteArray) (bp : Nat) (W : World) (cp : W.cell? ⟨bp, 0, none⟩ = some (.string p)) (hx : x.1.size ≤ 100000) (hp : p.size ≤ 100000) :
    Calls Tryd.prog 53 (#[enV x] ++ #[.pointer (some ⟨bp, 0, none⟩)]) W fun e w' => e = .returned (.bool (und (pl x) p.data.toList)) ∧ Below W.heap.size W w' := by
  have HC := Lib.hid (fun W' => under_any x.1 p (by omega) (by omega) W')
  have hb0 : Below W.heap.size W (W.alloc (.cells #[.string x.1, .int .i64 x.2.1, .string x.2.2] 41)) := (Below.refl _ _).alloc (Nat.le_refl _) _
  have HB0 := Lib.hid hb0
  obtain ⟨r, hr⟩ : ∃ r, und (pl x) p.data.toList = r := ⟨_, rfl⟩
  rw [show und x.1.data.toList p.data.toList = r from hr] at HC
  rw [hr]
  have cp1 : (W.alloc (.cells #[.string x.1, .int .i64 x.2.1, .string x.2.2] 41)).cell? ⟨bp, 0, none⟩ = some (.string p) := by
    by_cases hlt : bp < W.heap.size
    · exact (hb0.cell (p := ⟨bp, 0, none⟩) hlt).trans cp
    · exfalso
      have : W.heap[bp]? = none := Array.getElem?_eq_none (by omega)
      simp [World.cell?, this] at cp
  clear hb0 hr hx hp
  go_enter Tryd.func53, Tryd.ntmps53
  go_wp2_with fail
  refine (HC.out _).mono ?_
  rintro e w1 ⟨rfl, hb⟩
  have HB := Lib.hid (HB0.out.trans (hb.mono HB0.out.size))
  clear hb
  go_wp2
  go_ret
  exact ⟨rfl, HB.out⟩
set_option maxRecDepth 10000 in
set_option maxHeartbeats 1000000 in
theorem index11 (t : List Ent) (a : Option Addr) (cap : Nat) (p : ByteArray) (bp : Nat) (w : World) (h : Ents w a cap t) (hs : Sm t) (hl : bp < w.heap.size) (cp : w.cell? ⟨bp, 0, none⟩ = some (.string p)) (hp : p.size ≤ 100000) :
    Calls Tryd.prog 52 #[.slice a t.length cap, .func (.func 53) #[] #[.pointer (some ⟨bp, 0, none⟩)]] w fun e w' => ∃ i : Int, e = .returned (.int .i64 i) ∧ decide (0 ≤ i) = (t.any fun x => und (pl x) p.data.toList) ∧ Below w.heap.size w w' := by
  have HE := Lib.hid h
  have hlen := hs.1
  have HC : Hid (∀ x ∈ t, ∀ W, Below w.heap.size w W → _) := fun x hx W hW => uclo11 x p bp W ((hW.cell (p := ⟨bp, 0, none⟩) hl).trans cp) (hs.2 x hx).1 hp
  obtain ⟨r, hr⟩ : ∃ r, (t.any fun x => und (pl x) p.data.toList) = r := ⟨_, rfl⟩
  have HR := Lib.hid hr
  rw [hr]
  clear h hs hl cp hp hr
  go_enter Tryd.func52, Tryd.ntmps52
  go_wp2
  go_loopg [8] t.length (fun g i wx => ∃ k : Nat, i = .int .i64 (k : Int) ∧ k + g = t.length ∧ Hid (Below w.heap.size w wx) ∧ Hid ((t.take k).any (fun x => und (pl x) p.data.toList) = false))
  case atStart => exact ⟨0, rfl, by omega, Below.refl _ _, by simp [Hid]⟩
  case round =>
    obtain ⟨k, rfl, hk, HB, HN⟩ := hrel
    have hw : IntKind.i64.wrap ((k : Int) + 1) = (k : Int) + 1 := IntWalk.i64_in _ (by omega)
    by_cases hlt : k < t.length
    · have hlt' : (k : Int) < (t.length : Int) := by omega
      obtain ⟨b, off, rfl, _, hc⟩ := Ents.at HE.out HB.out hlt
      have HCX := Lib.hid (HC.out t[k] (List.getElem_mem hlt) wr HB.out)
      have HT := Lib.hid (take_get t k hlt)
      have HM := Lib.hid (List.getElem_mem hlt)
      obtain ⟨x, hx⟩ : ∃ x, t[k] = x := ⟨_, rfl⟩
      rw [hx] at hc HCX HT HM
      have c0 := hc.c0
      have c1 := hc.c1
      have c2 := hc.c2
      clear hc hx
      cases hu : und (pl x) p.data.toList with
      | true =>
        rw [hu] at HCX
        have HV := Lib.hid (show r = true by rw [← HR.out, List.any_eq_true]; exact ⟨x, HM.out, hu⟩)
        clear hu
        go_wp2_with fail
        refine (HCX.out).mono ?_
        rintro e w1 ⟨rfl, hb⟩
        have HB1 := Lib.hid (HB.out.trans (hb.mono HB.out.size))
        clear hb
        go_wp2
        go_ret
        exact ⟨_, rfl, by rw [HV.out]; exact decide_eq_true (by omega), HB1.out⟩
      | false =>
        rw [hu] at HCX
        have HN1 := Lib.hid (show (t.take (k + 1)).any (fun x => und (pl x) p.data.toList) = false by rw [HT.out, List.any_append, HN.out]; simp [hu])
        clear hu
        go_wp2_with fail
        refine (HCX.out).mono ?_
        rintro e w1 ⟨rfl, hb⟩
        have HB1 := Lib.hid (HB.out.trans (hb.mono HB.out.size))
        clear hb
        go_wp2
        go_roundg (gk - 1)
        case measure => omega
        case rel => exact ⟨k + 1, by simp, by omega, HB1.out, HN1.out⟩
    · have hlt' : ¬ (k : Int) < (t.length : Int) := by omega
      have HV := Lib.hid (show r = false by
        rw [← HR.out]
        have := HN.out
        rwa [List.take_of_length_le (by omega)] at this)
      go_wp2
      go_ret
      exact ⟨_, rfl, by rw [HV.out]; exact decide_eq_false (by omega), HB.out⟩
set_option maxRecDepth 10000 in
set_option maxHeartbeats 1000000 in
theorem contains11 (t : List Ent) (a : Option Addr) (cap : Nat) (p : ByteArray) (bp : Nat) (w : World) (h : Ents w a cap t) (hs : Sm t) (hl : bp < w.heap.size) (cp : w.cell? ⟨bp, 0, none⟩ = some (.string p)) (hp : p.size ≤ 100000) :
    Calls Tryd.prog 35 #[.slice a t.length cap, .func (.func 53) #[] #[.pointer (some ⟨bp, 0, none⟩)]] w fun e w' => e = .returned (.bool (t.any fun x => und (pl x) p.data.toList)) ∧ Below w.heap.size w w' := by
  have HC := Lib.hid (index11 t a cap p bp w h hs hl cp hp)
  obtain ⟨r, hr⟩ : ∃ r, (t.any fun x => und (pl x) p.data.toList) = r := ⟨_, rfl⟩
  rw [hr] at HC ⊢
  clear h hs hl cp hp hr
  go_enter Tryd.func35, Tryd.ntmps35
  go_wp2_with fail
  refine (HC.out).mono ?_
  rintro e w1 ⟨i, rfl, hi, hb⟩
  have HB := Lib.hid hb
  have HI := Lib.hid hi
  clear hb hi
  go_wp2
  go_ret
  exact ⟨by rw [← HI.out]; rfl, HB.out⟩
theorem mkunder11 (p : ByteArray) (w : World) : Calls Tryd.prog 36 #[.string p] w fun e w' => e = .returned (.func (.func 53) #[] #[.pointer (some ⟨w.heap.size, 0, none⟩)]) ∧ w.alloc (.cells #[.string p] 9) = w' := by
  have hmf : ∀ (fn : Fn) (first cap : Array Value) (w : World), (Instr.makeFunc fn first cap).run Tryd.prog w = .ok (.func fn first cap) w := fun _ _ _ _ => rfl
  go_enter Tryd.func36, Tryd.ntmps36
  go_wp2
  go_ret
  exact ⟨rfl, rfl⟩
theorem rmV_st (t : List Ent) (p : List UInt8) : rmV t p = if stV t p 2 ≠ 0 then (stV t p 2, []) else if (t.any fun x => und (pl x) p) = true then (7, []) else (0, wout t p) := by
  unfold rmV stV hsV
  by_cases h1 : isP p
  · rw [if_neg (not_not_intro h1), if_neg (not_not_intro h1)]
    by_cases h2 : p = [47]
    · rw [if_pos h2, if_pos h2]; rfl
    · rw [if_neg h2, if_neg h2]
      cases hf : fnd t p with
      | none => rfl
      | some e =>
        unfold othV
        by_cases h : e.2.1 = 2 <;> simp [h]
  · rw [if_pos h1, if_pos h1]; rfl
set_option maxRecDepth 10000 in
set_option maxHeartbeats 4000000 in
theorem rmdir11 (t : List Ent) (a : Option Addr) (cap : Nat) (p : ByteArray) (w : World) (h : Ents w a cap t) (ht : TreeL t) (hl : t.length ≤ 900) (hp : p.size ≤ 100000) :
    Calls Tryd.prog 17 #[.slice a t.length cap, .string p] w (Ans11 (rmV t p.data.toList) w) := by
  have HE := Lib.hid h
  have HC := Lib.hid (standing11 t a cap p 2 w h ht hl hp)
  have HT := Lib.hid ht
  have HL := Lib.hid hl
  have HP := Lib.hid hp
  have HA := Lib.hid (fun o n v W h => at_er o p n v W h)
  have HMK := Lib.hid (mkunder11 p)
  obtain ⟨r, hr⟩ : ∃ r, rmV t p.data.toList = r := ⟨_, rfl⟩
  have HR := Lib.hid (hr.symm.trans (rmV_st t p.data.toList))
  rw [hr]
  have HCO : Hid (∀ W, Below w.heap.size w W → Calls Tryd.prog 35 #[.slice a t.length cap, .func (.func 53) #[] #[.pointer (some ⟨W.heap.size, 0, none⟩)]] (W.alloc (.cells #[.string p] 9)) fun e w' => e = .returned (.bool (t.any fun x => und (pl x) p.data.toList)) ∧ Below w.heap.size w w') := fun W hW => by
    have hb0 : Below W.heap.size W (W.alloc (.cells #[.string p] 9)) := (Below.refl _ _).alloc (Nat.le_refl _) _
    have hb1 := hW.trans (hb0.mono hW.size)
    refine (contains11 t a cap p W.heap.size _ (RowN.below HE.out hb1) (sm_tree ht (by omega)) (by simp) (by simp) hp).mono ?_
    rintro e w' ⟨rfl, hb⟩
    exact ⟨rfl, hb1.trans (hb.mono hb1.size)⟩
  clear h ht hl hp hr
  go_enter Tryd.func17, Tryd.ntmps17
  go_wp2_with fail
  refine (HC.out).mono ?_
  rintro e w1 ⟨i, er, rfl, her, hi, hb⟩
  have HB1 := Lib.hid hb
  have HE1 := Lib.hid (RowN.below HE.out hb)
  clear hb
  rcases her with ⟨h0, rfl⟩ | ⟨h0, herr⟩
  · have HR1 := Lib.hid (show r = if (t.any fun x => und (pl x) p.data.toList) = true then (7, []) else (0, wout t p.data.toList) by rw [HR.out, if_neg (not_not_intro h0)])
    have hfx : ∃ x, fnd t p.data.toList = some x := by
      unfold stV at h0
      by_cases h9 : hsV p.data.toList ≠ 0
      · rw [if_pos h9] at h0; exact absurd h0 h9
      · rw [if_neg h9] at h0
        cases hf : fnd t p.data.toList with
        | none => rw [hf] at h0; cases h0
        | some x => exact ⟨x, rfl⟩
    obtain ⟨x, hx⟩ := hfx
    have hi := hi h0
    subst hi
    have HCO1 := Lib.hid (HCO.out w1 HB1.out)
    have HW : Hid (∀ W, Below w.heap.size w W → _) := fun W hW => without11 t a cap p.data.toList x W (RowN.below HE.out hW) HT.out.2.1.2.1 (by have := HL.out; omega) hx
    obtain ⟨q, hq⟩ : ∃ q, (t.any fun x => und (pl x) p.data.toList) = q := ⟨_, rfl⟩
    rw [hq] at HCO1 HR1
    clear h0 hx hq HCO
    cases q with
    | true =>
      have HV := Lib.hid (show r = (7, []) by rw [HR1.out, if_pos rfl])
      go_wp2_with fail
      refine (HMK.out _).mono ?_
      rintro e w2 ⟨rfl, rfl⟩
      go_wp2_with fail
      refine (HCO1.out).mono ?_
      rintro e w3 ⟨rfl, hb⟩
      have HB3 := Lib.hid hb
      clear hb
      have HER := Lib.hid (er_no11 w3 7 (by decide))
      go_wp2_with fail
      refine (HA.out _ _ _ _ HER.out).mono ?_
      rintro e w4 ⟨er2, rfl, her, hb⟩
      have HB4 := Lib.hid (HB3.out.trans (hb.mono HB3.out.size))
      have HER2 := Lib.hid her
      clear hb her
      go_wp2
      go_ret2
      exact ⟨none, 0, er2, by rw [HV.out]; rfl, by rw [HV.out]; exact ents_nil _ _ _, by rw [HV.out]; exact HER2.out, HB4.out⟩
    | false =>
      have HV := Lib.hid (show r = (0, wout t p.data.toList) by rw [HR1.out, if_neg (by decide)])
      go_wp2_with fail
      refine (HMK.out _).mono ?_
      rintro e w2 ⟨rfl, rfl⟩
      go_wp2_with fail
      refine (HCO1.out).mono ?_
      rintro e w3 ⟨rfl, hb⟩
      have HB3 := Lib.hid hb
      clear hb
      have HW3 := Lib.hid (HW.out w3 HB3.out)
      clear HW
      go_wp2_with fail
      refine (HW3.out).mono ?_
      rintro e w4 ⟨a', cap', rfl, h2, hb⟩
      have HB4 := Lib.hid (HB3.out.trans (hb.mono HB3.out.size))
      have H2 := Lib.hid h2
      clear hb h2
      go_wp2
      go_ret2
      exact ⟨a', cap', .nilIface, by rw [HV.out]; rfl, by rw [HV.out]; exact H2.out, by rw [HV.out]; exact er_nil _, HB4.out⟩
  · have HV := Lib.hid (show r = (stV t p.data.toList 2, []) by rw [HR.out, if_pos h0])
    obtain ⟨u, y, rfl⟩ := herr.iface
    have HER := Lib.hid (show Er w1 (stV t p.data.toList 2) (.iface u y) from .inr ⟨h0, herr⟩)
    clear herr h0 hi
    go_wp2_with fail
    refine (HA.out _ _ _ _ HER.out).mono ?_
    rintro e w2 ⟨er2, rfl, her, hb⟩
    have HB2 := Lib.hid (HB1.out.trans (hb.mono HB1.out.size))
    have HER2 := Lib.hid her
    clear hb her
    go_wp2
    go_ret2
    exact ⟨none, 0, er2, by rw [HV.out]; rfl, by rw [HV.out]; exact ents_nil _ _ _, by rw [HV.out]; exact HER2.out, HB2.out⟩
set_option maxRecDepth 10000 in
set_option maxHeartbeats 4000000 in
theorem rename11 (t : List Ent) (a : Option Addr) (cap : Nat) (p q : ByteArray) (w : World) (h : Ents w a cap t) (ht : TreeL t) (hl : t.length ≤ 900) (hp : p.size ≤ 100000) (hq : q.size ≤ 100000) :
    Calls Tryd.prog 13 #[.slice a t.length cap, .string p, .string q] w (Ans11 (rnV t p q) w) := by
  have HE := Lib.hid h
  have HC := Lib.hid (standing11 t a cap p 1 w h ht hl hp)
  rw [flV_st ht.2] at HC
  have HT := Lib.hid ht
  have HL := Lib.hid hl
  have HA := Lib.hid (fun o x n v W h => at_er o x n v W h)
  have HV2 : Hid (∀ W, Below w.heap.size w W → _) := fun W hW => vacant11 t a cap q W (RowN.below HE.out hW) ht hl hq
  obtain ⟨r, hr⟩ : ∃ r, rnV t p q = r := ⟨_, rfl⟩
  have HR : Hid (r = if flV t p.data.toList ≠ 0 then (flV t p.data.toList, []) else if plcV t q.data.toList ≠ 0 then (plcV t q.data.toList, []) else (0, wth (wout t p.data.toList) (q, 1, datV t p.data.toList))) := hr.symm
  rw [hr]
  clear h ht hl hp hq hr
  go_enter Tryd.func13, Tryd.ntmps13
  go_wp2_with fail
  refine (HC.out).mono ?_
  rintro e w1 ⟨i, er, rfl, her, hi, hb⟩
  have HB1 := Lib.hid hb
  have HE1 := Lib.hid (RowN.below HE.out hb)
  clear hb
  rcases her with ⟨h0, rfl⟩ | ⟨h0, herr⟩
  · have HR1 := Lib.hid (show r = if plcV t q.data.toList ≠ 0 then (plcV t q.data.toList, []) else (0, wth (wout t p.data.toList) (q, 1, datV t p.data.toList)) by rw [HR.out, if_neg (not_not_intro h0)])
    obtain ⟨-, -, x, hx1, hx2, hx3, hx4, hx5⟩ := flV_ok HT.out.2 h0
    have hi := hi h0
    obtain ⟨K, hK⟩ : ∃ K, plc t p.data.toList = K := ⟨_, rfl⟩
    obtain ⟨hk, hxk⟩ : ∃ hk : K < t.length, t[K] = x := by
      obtain ⟨h1, h2, _⟩ := plc_some HT.out.2.1.2.1 hx4
      subst hK
      exact ⟨h1, h2⟩
    have HX := Lib.hid hxk
    have HW : Hid (∀ W, Below w.heap.size w W → _) := fun W hW => without11 t a cap p.data.toList x W (RowN.below HE.out hW) HT.out.2.1.2.1 (by have := HL.out; omega) hx4
    rw [hK] at HW hi
    subst hi
    have HX4 := Lib.hid (show (q, (1 : Int), datV t p.data.toList) = (q, x.2.1, x.2.2) by rw [hx5, hx3])
    have hk' : (K : Int) < (t.length : Int) := by omega
    have HVC := Lib.hid (HV2.out w1 HB1.out)
    clear h0 hx1 hx2 hx3 hx4 hx5 hK hxk HV2
    go_wp2_with fail
    refine (HVC.out).mono ?_
    rintro e w2 ⟨er, rfl, her, hb⟩
    have HB2 := Lib.hid (HB1.out.trans (hb.mono HB1.out.size))
    have HE2 := Lib.hid (RowN.below HE1.out hb)
    clear hb
    rcases her with ⟨h0, rfl⟩ | ⟨h0, herr⟩
    · have HV := Lib.hid (show r = (0, wth (wout t p.data.toList) (q, x.2.1, x.2.2)) by rw [HR1.out, if_neg (not_not_intro h0), HX4.out])
      have HPN := Lib.hid (plcV_ok HT.out.2.1.2.1 h0).2.2.2
      obtain ⟨b, off, rfl, _, hc⟩ := Ents.at HE2.out (Below.refl _ _) hk
      rw [HX.out] at hc
      have c0 := hc.c0
      have c1 := hc.c1
      have c2 := hc.c2
      obtain ⟨V, hV⟩ : ∃ V, w2.alloc (.cells #[.string q, .int .i64 x.2.1, .string x.2.2] 41) = V := ⟨_, rfl⟩
      obtain ⟨M, hM⟩ : ∃ M, w2.heap.size = M := ⟨_, rfl⟩
      have hbV : Below w2.heap.size w2 V := by rw [← hV]; exact (Below.refl _ _).alloc (Nat.le_refl _) _
      have HBV := Lib.hid (HB2.out.trans (hbV.mono HB2.out.size))
      have HQV := Lib.hid (show EnAt V M q x.2.1 x.2.2 by rw [← hV, ← hM]; exact enAt_new _ _ _ _)
      have HKS : Hid (∀ X, Below V.heap.size V X → X.cell? ⟨M, 0, none⟩ = some (.string q) ∧ X.cell? ⟨M, 1, none⟩ = some (.int .i64 x.2.1) ∧ X.cell? ⟨M, 2, none⟩ = some (.string x.2.2)) := fun X hX => ⟨(HQV.out.below hX).c0, (HQV.out.below hX).c1, (HQV.out.below hX).c2⟩
      obtain ⟨o, ho⟩ : ∃ o, wout t p.data.toList = o := ⟨_, rfl⟩
      have HOA := Lib.hid (show Asc o by rw [← ho]; exact asc_wout HT.out.2.1.2.1 _)
      have HOL := Lib.hid (show o.length ≤ 1000 by rw [← ho]; have := HL.out; have : (wout t p.data.toList).length ≤ t.length := List.length_filter_le _ _; omega)
      have HON := Lib.hid (show fnd o (pl (q, x.2.1, x.2.2)) = none by
        rw [← ho]
        exact fnd_none.2 fun y hy => fnd_none.1 HPN.out y (mem_wout.1 hy).1)
      have HA1 : Hid (Calls Tryd.prog 34 #[.slice (some ⟨b, off, none⟩) t.length cap, .int .i64 (K : Int)] V.drew fun e w' => ∃ a4 cap4, e = .returned (.slice a4 o.length cap4) ∧ Ents w' a4 cap4 o ∧ Below V.heap.size V w') := by
        refine (HW.out V.drew HBV.out.drew).mono ?_
        rw [ho]
        rintro e w' ⟨a4, cap4, rfl, h4, hb⟩
        exact ⟨a4, cap4, rfl, h4, ((Below.refl V.heap.size V).drew).trans hb⟩
      rw [ho] at HV
      obtain ⟨z, hz⟩ : ∃ z, wth o (q, x.2.1, x.2.2) = z := ⟨_, rfl⟩
      rw [hz] at HV
      have HA2 : Hid (∀ X a4 cap4, Ents X a4 cap4 o → Below V.heap.size V X → Calls Tryd.prog 33 #[.slice a4 o.length cap4, entV q x.2.1 x.2.2] X fun e w' => ∃ a5 cap5, e = .returned (.slice a5 z.length cap5) ∧ Ents w' a5 cap5 z ∧ Below V.heap.size V w') := fun X a4 cap4 h4 hX => by
        refine (with11 o a4 cap4 (q, x.2.1, x.2.2) X h4 HOA.out HOL.out HON.out).mono ?_
        rw [hz]
        rintro e w' ⟨a5, cap5, rfl, h5, hb⟩
        exact ⟨a5, cap5, rfl, h5, hX.trans (hb.mono hX.size)⟩
      clear h0 hc hbV ho hz HW
      go_wp2_with fail
      clear hV hM c0 c1 c2
      go_region_held3 (fun X => X.cell? ⟨M, 0, none⟩ = some (.string q) ∧ X.cell? ⟨M, 1, none⟩ = some (.int .i64 x.2.1) ∧ X.cell? ⟨M, 2, none⟩ = some (.string x.2.2))
        ((with_reducible refine HKS.out _ ?_; (first | with_reducible assumption | with_reducible exact Below.refl _ _ | with_reducible exact (Below.refl _ _).drew)))
        (first
        | (go_at_call 34; with_reducible refine (HA1.out).mono ?_; rintro e w4 ⟨a4, cap4, rfl, h4, hB4⟩)
        | (go_at_call 33; with_reducible refine (HA2.out _ _ _ h4 hB4).mono ?_; rintro e w5 ⟨a5, cap5, rfl, h5, hB5⟩))
      all_goals
        have HB5 := Lib.hid (HBV.out.trans (hB5.mono HBV.out.size))
        have HE5 := Lib.hid h5
        clear h4 hB4 h5 hB5
        go_wp2
        go_ret2
        exact ⟨a5, cap5, .nilIface, by rw [HV.out]; rfl, by rw [HV.out]; exact HE5.out, by rw [HV.out]; exact er_nil _, HB5.out⟩
    · have HV := Lib.hid (show r = (plcV t q.data.toList, []) by rw [HR1.out, if_pos h0])
      obtain ⟨u, y, rfl⟩ := herr.iface
      have HER := Lib.hid (show Er w2 (plcV t q.data.toList) (.iface u y) from .inr ⟨h0, herr⟩)
      clear herr h0
      go_wp2_with fail
      refine (HA.out _ _ _ _ _ HER.out).mono ?_
      rintro e w3 ⟨er2, rfl, her, hb⟩
      have HB3 := Lib.hid (HB2.out.trans (hb.mono HB2.out.size))
      have HER2 := Lib.hid her
      clear hb her
      go_wp2
      go_ret2
      exact ⟨none, 0, er2, by rw [HV.out]; rfl, by rw [HV.out]; exact ents_nil _ _ _, by rw [HV.out]; exact HER2.out, HB3.out⟩
  · have HV := Lib.hid (show r = (flV t p.data.toList, []) by rw [HR.out, if_pos h0])
    obtain ⟨u, y, rfl⟩ := herr.iface
    have HER := Lib.hid (show Er w1 (flV t p.data.toList) (.iface u y) from .inr ⟨h0, herr⟩)
    clear herr h0 hi HV2
    go_wp2_with fail
    refine (HA.out _ _ _ _ _ HER.out).mono ?_
    rintro e w2 ⟨er2, rfl, her, hb⟩
    have HB2 := Lib.hid (HB1.out.trans (hb.mono HB1.out.size))
    have HER2 := Lib.hid her
    clear hb her
    go_wp2
    go_ret2
    exact ⟨none, 0, er2, by rw [HV.out]; rfl, by rw [HV.out]; exact ents_nil _ _ _, by rw [HV.out]; exact HER2.out, HB2.out⟩
end Go.Proofs.YtgpipljhpkhffaaDoor

namespace Go.Proofs.YtgpipljhpkhffaaDoor
open Go.RowKit

theorem tree11 : Tree11 where
  tree l a cap w _ h hs := tree10 l a cap w h hs
  create t a cap p w _ h ht hl hp := create11 t a cap p w h ht hl hp
  mkdir t a cap p w _ h ht hl hp := mkdir11 t a cap p w h ht hl hp
  write t a cap p n s w _ h ht hl hp hn hs := write11 t a cap p n s w h ht hl hp hn hs
  cut t a cap p n w _ h ht hl hp hn := cut11 t a cap p n w h ht hl hp hn
  unlink t a cap p w _ h ht hl hp := unlink11 t a cap p w h ht hl hp
  rmdir t a cap p w _ h ht hl hp := rmdir11 t a cap p w h ht hl hp
  rename t a cap p q w _ h ht hl hp hq := rename11 t a cap p q w h ht hl hp hq
end Go.Proofs.YtgpipljhpkhffaaDoor
