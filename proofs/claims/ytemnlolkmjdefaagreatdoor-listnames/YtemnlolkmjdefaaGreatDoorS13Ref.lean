/-
  The contract of the document's own Names of a tree (package shaleref11). Conditions: a tree in memory, of at most 1000 entries.
-/
import Derived.Test.YtemnlolkmjdefaaGreatDoorPf
import Derived.Test.YtemnlolkmjdefaaGreatDoorS9Par
import Derived.Test.YtemnlolkmjdefaaGreatDoorS8Ref
import Derived.Deep.RegionLaw
namespace Go.Proofs.YtemnlolkmjdefaaGreatDoor
open Go.RowKit

theorem names_last13 {q : ByteArray} (h : isP q.data.toList) (h1 : q.data.toList ≠ [47]) : ∃ m, (names q).length = m + 1 ∧ (names q)[m]? = some (bs (lastN q.data.toList)) := by
  obtain ⟨_, h2, _, _⟩ := last_parts h h1
  have e : names q = (pcs (par9 q.data.toList)).map bs ++ [bs (lastN q.data.toList)] := by
    rw [names_pos h]
    unfold prts
    rw [h2, List.map_append]
    rfl
  refine ⟨(pcs (par9 q.data.toList)).length, by rw [e]; simp, ?_⟩
  rw [e, List.getElem?_append_right (by simp)]
  simp
theorem ownN_low {w : World} {B B' : Nat} {v : Value} {ns : List ByteArray} (h : OwnN w B v ns) (hb : B' ≤ B) : OwnN w B' v ns := by
  obtain ⟨hl, h | ⟨g, cap, cur, e, hg, h1⟩⟩ := h
  · exact ⟨hl, .inl h⟩
  · exact ⟨hl, .inr ⟨g, cap, cur, e, Nat.le_trans hb hg, h1⟩⟩
set_option maxRecDepth 100000 in
set_option maxHeartbeats 16000000 in
theorem refNames13 (t : List Ent) (a : Option Addr) (cap : Nat) (p : ByteArray) (w : World) (h : Ents w a cap t) (ht : TR t) (hl : t.length ≤ 1000) :
    Calls Tryz.prog 29 #[.slice a t.length cap, .string p] w fun e w' => ∃ a' cap', e = .returned (.slice a' (nmB t p.data.toList).length cap') ∧ Row w' a' cap' (nmB t p.data.toList) ∧ Below w.heap.size w w' := by
  have HE := Lib.hid h
  have HT := Lib.hid ht
  clear h ht
  go_enter Tryz.func29, Tryz.ntmps29
  go_wp2
  go_loopg [5, 6] t.length (fun g v i wx => ∃ (k : Nat) (O : List ByteArray), i = .int .i64 (k : Int) ∧ k + g = t.length ∧ Hid (O = nmB (t.take k) p.data.toList) ∧ Hid (OwnN wx w.heap.size v O) ∧ Hid (Below w.heap.size w wx))
  case atStart => exact ⟨0, [], rfl, by omega, rfl, ownN_nil _ _, Below.refl _ _⟩
  case round =>
    obtain ⟨k, O, rfl, hk, HO, HOW, HB⟩ := hrel
    have hw : IntKind.i64.wrap ((k : Int) + 1) = (k : Int) + 1 := IntWalk.i64_in _ (by omega)
    obtain ⟨ao, co, ev, hro⟩ := row_of_ownN HOW.out
    have HRO := Lib.hid hro
    by_cases hlt : k < t.length
    · have hlt' : (k : Int) < (t.length : Int) := by omega
      obtain ⟨b, off, rfl, hblt, hc⟩ := Ents.at HE.out HB.out hlt
      obtain ⟨x, hx⟩ : ∃ x, t[k] = x := ⟨_, rfl⟩
      have HXR := Lib.hid (show isP (pl x) ∧ pl x ≠ [47] by rw [← hx]; exact rE_isP (HT.out.1.1 _ (List.getElem_mem hlt)))
      have HNT := Lib.hid (show nmB (t.take (k + 1)) p.data.toList = if par9 (pl x) = p.data.toList then O ++ [bs (lastN (pl x))] else O by rw [nmB_take t p.data.toList hlt, hx, HO.out])
      have HLS := Lib.hid (fun (hp : par9 (pl x) = p.data.toList) => show ∀ y ∈ O, lt8 y.data.toList (lastN (pl x)) = true by
        rw [← hx] at hp ⊢
        rw [HO.out]
        exact nmB_less HT.out p.data.toList hlt hp)
      rw [hx] at hc
      have c0 := hc.c0
      have HPX := Lib.hid (fun W => refPar9 x.1 HXR.out.1 HXR.out.2 W)
      have HSX := Lib.hid (fun W => refSplit_any x.1 (by have := isP_len HXR.out.1; rw [← Lib.size_eq] at this; omega) W)
      have HOL := Lib.hid (show O.length ≤ 1000 by have := nmB_len (t.take k) p.data.toList; rw [List.length_take] at this; rw [HO.out]; omega)
      have HOZ := Lib.hid (fun y (hy : y ∈ O) => show y.size ≤ 100000 by
        rw [HO.out] at hy
        have := nmB_size (tr_takeC13 HT.out k) y hy
        omega)
      have HXK := Lib.hid hx
      clear hc hx hro
      subst ev
      go_wp2_with fail
      refine (HPX.out _).mono ?_
      rintro e w1 ⟨rfl, hb⟩
      have HB1 := Lib.hid (HB.out.trans (hb.mono HB.out.size))
      have HOW1 := Lib.hid (ownN_below HOW.out hb)
      have HE1 := Lib.hid (RowN.below HE.out HB1.out)
      clear hb c0 HPX HRO HO
      by_cases hp : par9 (pl x) = p.data.toList
      · have g1 : ((bs (par9 (pl x))).toList == p.toList) = true := by rw [Lib.toList_data, Lib.toList_data, bs_list, beq_iff_eq]; exact hp
        have HLL := Lib.hid (HLS.out hp)
        have HNX := Lib.hid (HNT.out.trans (if_pos hp))
        obtain ⟨pp, hpp⟩ : ∃ s, bs (par9 (pl x)) = s := ⟨_, rfl⟩
        rw [hpp] at g1 ⊢
        obtain ⟨m, hm1, hm2⟩ := names_last13 HXR.out.1 HXR.out.2
        obtain ⟨n, hn⟩ : ∃ n, bs (lastN (pl x)) = n := ⟨_, rfl⟩
        rw [hn] at hm2 HNX
        have HNL := Lib.hid (show n.data.toList = lastN (pl x) by rw [← hn, bs_list])
        have HN8 := Lib.hid (show n.size ≤ 100 by
          rw [← hn, bs_size]
          have := nm_len (last_parts HXR.out.1 HXR.out.2).2.2.1
          omega)
        obtain ⟨b2, off2, e2, _, hc2⟩ := Ents.at HE1.out (Below.refl _ _) hlt
        cases e2
        rw [HXK.out] at hc2
        have c0 := hc2.c0
        obtain ⟨L, hL⟩ : ∃ L, (names x.1).length = L := ⟨_, rfl⟩
        have HLM := Lib.hid (show L = m + 1 by rw [← hL]; exact hm1)
        have HL6 := Lib.hid (show L ≤ 6 by rw [← hL]; exact names_len x.1)
        have HNM := Lib.hid hm2
        have hL1 : IntKind.i64.wrap ((L : Int) - 1) = (m : Int) := by
          have := HLM.out
          have := HL6.out
          rw [IntWalk.i64_in _ (by omega)]
          omega
        have hL2 : (m : Int) < (L : Int) := by have := HLM.out; omega
        rw [hL] at HSX
        clear hc2 hp hpp hn hm1 hm2 hL
        go_wp2_with fail
        refine (HSX.out _).mono ?_
        rintro e w2 ⟨aN, cN, rfl, hrow, hb⟩
        have HB2 := Lib.hid (HB1.out.trans (hb.mono HB1.out.size))
        have HOW2 := Lib.hid (ownN_below HOW1.out hb)
        obtain ⟨bn, on, rfl, hcn⟩ : ∃ bn on, aN = some ⟨bn, on, none⟩ ∧ w2.cell? ⟨bn, on + m, none⟩ = some (.string n) := by
          rcases hrow.2 with h0 | ⟨bn, on, rfl, _, hcs⟩
          · have := HNM.out
            rw [h0] at this
            cases this
          · exact ⟨bn, on, rfl, hcs m n HNM.out⟩
        clear hb hrow c0
        go_wp2
        go_loopg [10] O.length (fun g j wx => ∃ i : Nat, j = .int .i64 (i : Int) ∧ i + g = O.length ∧ Hid (Below w.heap.size w wx) ∧ Hid (Below w2.heap.size w2 wx))
        case atStart => exact ⟨0, rfl, by omega, HB2.out, Below.refl _ _⟩
        case round =>
          obtain ⟨i, rfl, hi, HBi, HBB⟩ := hrel
          have hwi : IntKind.i64.wrap ((i : Int) + 1) = (i : Int) + 1 := IntWalk.i64_in _ (by have := HOL.out; omega)
          have HOWi := Lib.hid (ownN_below HOW2.out HBB.out)
          obtain ⟨ao', co', ev, hro⟩ := row_of_ownN HOWi.out
          obtain ⟨rfl, rfl⟩ : ao = ao' ∧ co = co' := by
            injection ev with e1 _ e3
            exact ⟨e1, e3⟩
          have HROi := Lib.hid hro
          clear ev hro
          by_cases hil : i < O.length
          · have hil' : (i : Int) < (O.length : Int) := by omega
            have g9 : decide ((i : Int) < (O.length : Int)) = true := decide_eq_true hil'
            obtain ⟨bo, oo, rfl, hco⟩ := Row.at9 HROi.out (Below.refl _ _) hil
            have HLi := Lib.hid (HLL.out _ (List.getElem_mem hil))
            obtain ⟨y, hy⟩ : ∃ y, O[i] = y := ⟨_, rfl⟩
            rw [hy] at hco HLi
            have HLC := Lib.hid (refLess_any y n (HOZ.out y (by rw [← hy]; exact List.getElem_mem hil)) (by have := HN8.out; omega) wr)
            have hlt9 : Op.bytesLess y.data.toList n.data.toList = true := by rw [HNL.out]; exact HLi.out
            rw [hlt9] at HLC
            clear hy hlt9
            go_wp2_with fail
            refine (HLC.out).mono ?_
            rintro e w5 ⟨rfl, hb⟩
            have HB5 := Lib.hid (HBi.out.trans (hb.mono HBi.out.size))
            have HBB5 := Lib.hid (HBB.out.trans (hb.mono HBB.out.size))
            clear hb
            go_wp2
            go_roundg (O.length - (i + 1))
            case measure => omega
            case rel => exact ⟨i + 1, by simp, by omega, HB5.out, HBB5.out⟩
          · obtain rfl : i = O.length := by omega
            have hil' : ¬ (O.length : Int) < (O.length : Int) := by omega
            have g9 : decide ((O.length : Int) < (O.length : Int)) = false := decide_eq_false hil'
            have hoc : (O.length : Int) ≤ (co : Int) := by have := HROi.out.1; omega
            have hO0 : (0 : Int) ≤ (O.length : Int) := by omega
            have hol := HOL.out
            obtain ⟨iE, hi1, hi2, hi3, hi4⟩ := info_parts infoStr
            have hone1 : ∀ u ∈ O.map Value.string, u.oneCell' = true := fun u hu => by
              obtain ⟨y, _, rfl⟩ := List.mem_map.1 hu
              rfl
            have hone2 : ∀ u ∈ [Value.string n], u.oneCell' = true := fun u hu => by rw [List.mem_singleton.1 hu]; rfl
            have hln1 : (O.map Value.string).length = O.length * 1 := by simp
            have HFIN : Hid (∀ w7 v7, Below wr.heap.size wr w7 → w7.ownsRow wr.heap.size 9 1 v7 (O.length + 1) (O.map Value.string ++ [.string n]) → OwnN w7 w.heap.size v7 (nmB (t.take (k + 1)) p.data.toList)) := fun w7 v7 _ h7 => by
              rw [HNX.out]
              refine ownN_low (B := wr.heap.size) ?_ HBi.out.size
              unfold OwnN
              rw [List.length_append, List.length_singleton, List.map_append]
              exact h7
            cases ao with
            | none =>
              obtain rfl : O = [] := by
                rcases HROi.out.2 with h0 | ⟨b9, o9, e9, _⟩
                · exact h0
                · cases e9
              obtain rfl : co = 0 := by
                rcases HOWi.out.2 with ⟨e9, _⟩ | ⟨_, _, _, e9, _⟩
                · injection e9 with _ _ e3
                · cases e9
              go_wp2_with fail
              go_region_law
                (first
                  | (((refine step_append_any (by rfl) _ _ 25 (by rfl) wr.heap.size 9 iE (.string ⟨#[]⟩) 1 16 Tryz.underlying25 hi1 hi2 hi3 hi4 rfl (by decide) v6 (0 + 0 + 1) ([] ++ [] ++ [.string n]) ?_ ?_ (none) 0 0 [] ?_ rfl (fun ad e => by cases e) (fun _ => rfl) (by simp) (by unfold maxLen; omega) (by omega) ?_ ?_); (focus (rfl)); (focus ((repeat' (first | with_reducible exact ho6 | with_reducible refine World.ownsRow.drew ?_ | with_reducible refine World.ownsRow.alloc ?_ _)); done)); (focus (rfl)); (focus (first | omega | (simp <;> omega) | simp)); intro v7 w7 ho7 hg7; refine grownE_step (B := wr.heap.size) (w3 := wr) ?_ hg7 ?_ (own_blk ho6) ?_; (focus ((repeat' (first | with_reducible assumption | (with_reducible refine Below.drew ?_) | (with_reducible refine Below.alloc ?_ ?_ _) | (with_reducible exact Below.refl _ _) | omega | (simp <;> omega))); done)); (focus (first | omega | (simp <;> omega) | simp)); intro hb7 hs7))
                  | (((refine step_append_any (by rfl) _ _ 25 (by rfl) wr.heap.size 9 iE (.string ⟨#[]⟩) 1 16 Tryz.underlying25 hi1 hi2 hi3 hi4 rfl (by decide) v5 (0 + 0) ([] ++ []) ?_ ?_ (some ⟨w5.heap.size, 0, none⟩) 1 1 [.string n] ?_ rfl (fun ad e => srcE_some e ?_) (fun e => by cases e) hone2 (by unfold maxLen; omega) (by omega) ?_ ?_); (focus (rfl)); (focus ((repeat' (first | with_reducible exact ho5 | with_reducible refine World.ownsRow.drew ?_ | with_reducible refine World.ownsRow.alloc ?_ _)); done)); (focus (rfl)); (focus ((repeat' (first | with_reducible assumption | with_reducible exact rngE_one _ _ (by simp) _ _ | with_reducible refine rngE_drew ?_ | with_reducible refine rngE_alloc ?_ (by (first | omega | (simp <;> omega) | simp)))); done)); (focus (first | omega | (simp <;> omega) | simp)); intro v6 w6 ho6 hg6; refine grownE_step (B := wr.heap.size) (w3 := wr) ?_ hg6 ?_ (own_blk ho5) ?_; (focus ((repeat' (first | with_reducible assumption | (with_reducible refine Below.drew ?_) | (with_reducible refine Below.alloc ?_ ?_ _) | (with_reducible exact Below.refl _ _) | omega | (simp <;> omega))); done)); (focus (first | omega | (simp <;> omega) | simp)); intro hb6 hs6))
                  | (((refine step_append_any (by rfl) _ _ 25 (by rfl) wr.heap.size 9 iE (.string ⟨#[]⟩) 1 16 Tryz.underlying25 hi1 hi2 hi3 hi4 rfl (by decide) v5 (0 + 0) ([] ++ []) ?_ ?_ (some ⟨wr.heap.size + 1, 0, none⟩) 1 1 [.string n] ?_ rfl (fun ad e => srcE_some e ?_) (fun e => by cases e) hone2 (by unfold maxLen; omega) (by omega) ?_ ?_); (focus (rfl)); (focus ((repeat' (first | with_reducible exact ho5 | with_reducible refine World.ownsRow.drew ?_ | with_reducible refine World.ownsRow.alloc ?_ _)); done)); (focus (rfl)); (focus ((repeat' (first | with_reducible assumption | with_reducible exact rngE_one _ _ (by simp) _ _ | with_reducible refine rngE_drew ?_ | with_reducible refine rngE_alloc ?_ (by (first | omega | (simp <;> omega) | simp)))); done)); (focus (first | omega | (simp <;> omega) | simp)); intro v6 w6 ho6 hg6; refine grownE_step (B := wr.heap.size) (w3 := wr) ?_ hg6 ?_ (own_blk ho5) ?_; (focus ((repeat' (first | with_reducible assumption | (with_reducible refine Below.drew ?_) | (with_reducible refine Below.alloc ?_ ?_ _) | (with_reducible exact Below.refl _ _) | omega | (simp <;> omega))); done)); (focus (first | omega | (simp <;> omega) | simp)); intro hb6 hs6))
                  | (((refine step_append_any (by rfl) _ _ 25 (by rfl) wr.heap.size 9 iE (.string ⟨#[]⟩) 1 16 Tryz.underlying25 hi1 hi2 hi3 hi4 rfl (by decide) v5 (0 + 0) ([] ++ []) ?_ ?_ (some ⟨wr.heap.size, 0, none⟩) 1 1 [.string n] ?_ rfl (fun ad e => srcE_some e ?_) (fun e => by cases e) hone2 (by unfold maxLen; omega) (by omega) ?_ ?_); (focus (rfl)); (focus ((repeat' (first | with_reducible exact ho5 | with_reducible refine World.ownsRow.drew ?_ | with_reducible refine World.ownsRow.alloc ?_ _)); done)); (focus (rfl)); (focus ((repeat' (first | with_reducible assumption | with_reducible exact rngE_one _ _ (by simp) _ _ | with_reducible refine rngE_drew ?_ | with_reducible refine rngE_alloc ?_ (by (first | omega | (simp <;> omega) | simp)))); done)); (focus (first | omega | (simp <;> omega) | simp)); intro v6 w6 ho6 hg6; refine grownE_step (B := wr.heap.size) (w3 := wr) ?_ hg6 ?_ (own_blk ho5) ?_; (focus ((repeat' (first | with_reducible assumption | (with_reducible refine Below.drew ?_) | (with_reducible refine Below.alloc ?_ ?_ _) | (with_reducible exact Below.refl _ _) | omega | (simp <;> omega))); done)); (focus (first | omega | (simp <;> omega) | simp)); intro hb6 hs6))
                  | (((refine step_append_any (by rfl) _ _ 25 (by rfl) wr.heap.size 9 iE (.string ⟨#[]⟩) 1 16 Tryz.underlying25 hi1 hi2 hi3 hi4 rfl (by decide) (.slice (some ⟨wr.heap.size, 0, none⟩) 0 0) 0 [] ?_ ?_ (none) 0 0 [] ?_ rfl (fun ad e => by cases e) (fun _ => rfl) (by simp) (by unfold maxLen; omega) (by omega) ?_ ?_); (focus (rfl)); (focus ((repeat' (first | with_reducible refine World.ownsRow.drew ?_ | with_reducible exact ownsE_new _ _ _ (by simp) (by (first | omega | (simp <;> omega) | simp)) _ _ | with_reducible refine World.ownsRow.alloc ?_ _)); done)); (focus (rfl)); (focus (first | omega | (simp <;> omega) | simp)); intro v5 w5 ho5 hg5; refine grownE_step (B := wr.heap.size) (w3 := wr) ?_ hg5 ?_ ?_ ?_; (focus ((repeat' (first | with_reducible assumption | (with_reducible refine Below.drew ?_) | (with_reducible refine Below.alloc ?_ ?_ _) | (with_reducible exact Below.refl _ _) | omega | (simp <;> omega))); done)); (focus (first | omega | (simp <;> omega) | simp)); (focus (intro k hk; simp [Value.ownBlock] at hk; omega)); intro hb5 hs5; refine rngE_step (N := wr.heap.size + 1) (cs := [.string n]) ?_ hg5 ?_ ?_ ?_; (focus ((repeat' (first | with_reducible assumption | with_reducible exact rngE_one _ _ (by simp) _ _ | with_reducible refine rngE_drew ?_ | with_reducible refine rngE_alloc ?_ (by (first | omega | (simp <;> omega) | simp)))); done)); (focus (first | omega | (simp <;> omega) | simp)); (focus (simp [Value.ownBlock]; done)); intro hr5 hq5))
                  | (((refine step_append_any (by rfl) _ _ 25 (by rfl) wr.heap.size 9 iE (.string ⟨#[]⟩) 1 16 Tryz.underlying25 hi1 hi2 hi3 hi4 rfl (by decide) (.slice (some ⟨wr.heap.size + 1, 0, none⟩) 0 0) 0 [] ?_ ?_ (none) 0 0 [] ?_ rfl (fun ad e => by cases e) (fun _ => rfl) (by simp) (by unfold maxLen; omega) (by omega) ?_ ?_); (focus (rfl)); (focus ((repeat' (first | with_reducible refine World.ownsRow.drew ?_ | with_reducible exact ownsE_new _ _ _ (by simp) (by (first | omega | (simp <;> omega) | simp)) _ _ | with_reducible refine World.ownsRow.alloc ?_ _)); done)); (focus (rfl)); (focus (first | omega | (simp <;> omega) | simp)); intro v5 w5 ho5 hg5; refine grownE_step (B := wr.heap.size) (w3 := wr) ?_ hg5 ?_ ?_ ?_; (focus ((repeat' (first | with_reducible assumption | (with_reducible refine Below.drew ?_) | (with_reducible refine Below.alloc ?_ ?_ _) | (with_reducible exact Below.refl _ _) | omega | (simp <;> omega))); done)); (focus (first | omega | (simp <;> omega) | simp)); (focus (intro k hk; simp [Value.ownBlock] at hk; omega)); intro hb5 hs5; refine rngE_step (N := wr.heap.size) (cs := [.string n]) ?_ hg5 ?_ ?_ ?_; (focus ((repeat' (first | with_reducible assumption | with_reducible exact rngE_one _ _ (by simp) _ _ | with_reducible refine rngE_drew ?_ | with_reducible refine rngE_alloc ?_ (by (first | omega | (simp <;> omega) | simp)))); done)); (focus (first | omega | (simp <;> omega) | simp)); (focus (simp [Value.ownBlock]; done)); intro hr5 hq5))
                  | (((refine step_append_any (by rfl) _ _ 25 (by rfl) wr.heap.size 9 iE (.string ⟨#[]⟩) 1 16 Tryz.underlying25 hi1 hi2 hi3 hi4 rfl (by decide) (.slice (some ⟨wr.heap.size, 0, none⟩) 0 0) 0 [] ?_ ?_ (none) 0 0 [] ?_ rfl (fun ad e => by cases e) (fun _ => rfl) (by simp) (by unfold maxLen; omega) (by omega) ?_ ?_); (focus (rfl)); (focus ((repeat' (first | with_reducible refine World.ownsRow.drew ?_ | with_reducible exact ownsE_new _ _ _ (by simp) (by (first | omega | (simp <;> omega) | simp)) _ _ | with_reducible refine World.ownsRow.alloc ?_ _)); done)); (focus (rfl)); (focus (first | omega | (simp <;> omega) | simp)); intro v5 w5 ho5 hg5; refine grownE_step (B := wr.heap.size) (w3 := wr) ?_ hg5 ?_ ?_ ?_; (focus ((repeat' (first | with_reducible assumption | (with_reducible refine Below.drew ?_) | (with_reducible refine Below.alloc ?_ ?_ _) | (with_reducible exact Below.refl _ _) | omega | (simp <;> omega))); done)); (focus (first | omega | (simp <;> omega) | simp)); (focus (intro k hk; simp [Value.ownBlock] at hk; omega)); intro hb5 hs5)))
              all_goals
                have HF7 := Lib.hid (HFIN.out w7 v7 hb7 (by simpa using ho7))
                have HBD := Lib.hid (HBi.out.trans (hb7.mono HBi.out.size))
                clear hb7 ho7
                go_wp2
                go_roundg (t.length - (k + 1))
                case measure => omega
                case rel => exact ⟨k + 1, nmB (t.take (k + 1)) p.data.toList, by simp, by omega, rfl, HF7.out, HBD.out⟩
            | some ad =>
              obtain ⟨g9b, ead⟩ : ∃ g9b, ad = ⟨g9b, 0, none⟩ := by
                rcases HOWi.out.2 with ⟨e9, _⟩ | ⟨g9b, _, _, e9, _⟩
                · cases e9
                · injection e9 with e1
                  exact ⟨g9b, by injection e1⟩
              have hsrc1 : ∀ W', Below wr.heap.size wr W' → ∀ ad', some ad = some ad' → ∀ (j : Nat) u, (O.map Value.string)[j]? = some u → W'.cell? (ad'.add j) = some u := fun W' hb ad' e j u hu => by
                cases e
                rw [List.getElem?_map, Option.map_eq_some_iff] at hu
                obtain ⟨y, hy, rfl⟩ := hu
                rcases HROi.out.2 with h0 | ⟨b8, o8, e8, hb8, hc8⟩
                · rw [h0] at hy
                  simp at hy
                · cases e8
                  rw [Addr.add_lit]
                  exact (hb.cell (p := ⟨b8, o8 + j, none⟩) hb8).trans (hc8 j y hy)
              subst ead
              by_cases hcc : co = O.length
              · subst hcc
                go_wp2_with fail
                go_region_law
                  (first
                    | (((refine step_append_any (by rfl) _ _ 25 (by rfl) wr.heap.size 9 iE (.string ⟨#[]⟩) 1 16 Tryz.underlying25 hi1 hi2 hi3 hi4 rfl (by decide) v6 (0 + O.length + 1) ([] ++ (O.map Value.string) ++ [.string n]) ?_ ?_ (some ⟨g9b, 0, none⟩) 0 0 [] ?_ rfl (fun ad e j u hu => by simp at hu) (fun e => by cases e) (by simp) (by unfold maxLen; omega) (by omega) ?_ ?_); (focus (rfl)); (focus ((repeat' (first | with_reducible exact ho6 | with_reducible refine World.ownsRow.drew ?_ | with_reducible refine World.ownsRow.alloc ?_ _)); done)); (focus (rfl)); (focus (first | omega | (simp <;> omega) | simp)); intro v7 w7 ho7 hg7; refine grownE_step (B := wr.heap.size) (w3 := wr) ?_ hg7 ?_ (own_blk ho6) ?_; (focus ((repeat' (first | with_reducible assumption | (with_reducible refine Below.drew ?_) | (with_reducible refine Below.alloc ?_ ?_ _) | (with_reducible exact Below.refl _ _) | omega | (simp <;> omega))); done)); (focus (first | omega | (simp <;> omega) | simp)); intro hb7 hs7))
                    | (((refine step_append_any (by rfl) _ _ 25 (by rfl) wr.heap.size 9 iE (.string ⟨#[]⟩) 1 16 Tryz.underlying25 hi1 hi2 hi3 hi4 rfl (by decide) v5 (0 + O.length) ([] ++ (O.map Value.string)) ?_ ?_ (some ⟨w5.heap.size, 0, none⟩) 1 1 [.string n] ?_ rfl (fun ad e => srcE_some e ?_) (fun e => by cases e) hone2 (by unfold maxLen; omega) (by omega) ?_ ?_); (focus (rfl)); (focus ((repeat' (first | with_reducible exact ho5 | with_reducible refine World.ownsRow.drew ?_ | with_reducible refine World.ownsRow.alloc ?_ _)); done)); (focus (rfl)); (focus ((repeat' (first | with_reducible assumption | with_reducible exact rngE_one _ _ (by simp) _ _ | with_reducible refine rngE_drew ?_ | with_reducible refine rngE_alloc ?_ (by (first | omega | (simp <;> omega) | simp)))); done)); (focus (first | omega | (simp <;> omega) | simp)); intro v6 w6 ho6 hg6; refine grownE_step (B := wr.heap.size) (w3 := wr) ?_ hg6 ?_ (own_blk ho5) ?_; (focus ((repeat' (first | with_reducible assumption | (with_reducible refine Below.drew ?_) | (with_reducible refine Below.alloc ?_ ?_ _) | (with_reducible exact Below.refl _ _) | omega | (simp <;> omega))); done)); (focus (first | omega | (simp <;> omega) | simp)); intro hb6 hs6))
                    | (((refine step_append_any (by rfl) _ _ 25 (by rfl) wr.heap.size 9 iE (.string ⟨#[]⟩) 1 16 Tryz.underlying25 hi1 hi2 hi3 hi4 rfl (by decide) v5 (0 + O.length) ([] ++ (O.map Value.string)) ?_ ?_ (some ⟨wr.heap.size + 1, 0, none⟩) 1 1 [.string n] ?_ rfl (fun ad e => srcE_some e ?_) (fun e => by cases e) hone2 (by unfold maxLen; omega) (by omega) ?_ ?_); (focus (rfl)); (focus ((repeat' (first | with_reducible exact ho5 | with_reducible refine World.ownsRow.drew ?_ | with_reducible refine World.ownsRow.alloc ?_ _)); done)); (focus (rfl)); (focus ((repeat' (first | with_reducible assumption | with_reducible exact rngE_one _ _ (by simp) _ _ | with_reducible refine rngE_drew ?_ | with_reducible refine rngE_alloc ?_ (by (first | omega | (simp <;> omega) | simp)))); done)); (focus (first | omega | (simp <;> omega) | simp)); intro v6 w6 ho6 hg6; refine grownE_step (B := wr.heap.size) (w3 := wr) ?_ hg6 ?_ (own_blk ho5) ?_; (focus ((repeat' (first | with_reducible assumption | (with_reducible refine Below.drew ?_) | (with_reducible refine Below.alloc ?_ ?_ _) | (with_reducible exact Below.refl _ _) | omega | (simp <;> omega))); done)); (focus (first | omega | (simp <;> omega) | simp)); intro hb6 hs6))
                    | (((refine step_append_any (by rfl) _ _ 25 (by rfl) wr.heap.size 9 iE (.string ⟨#[]⟩) 1 16 Tryz.underlying25 hi1 hi2 hi3 hi4 rfl (by decide) v5 (0 + O.length) ([] ++ (O.map Value.string)) ?_ ?_ (some ⟨wr.heap.size, 0, none⟩) 1 1 [.string n] ?_ rfl (fun ad e => srcE_some e ?_) (fun e => by cases e) hone2 (by unfold maxLen; omega) (by omega) ?_ ?_); (focus (rfl)); (focus ((repeat' (first | with_reducible exact ho5 | with_reducible refine World.ownsRow.drew ?_ | with_reducible refine World.ownsRow.alloc ?_ _)); done)); (focus (rfl)); (focus ((repeat' (first | with_reducible assumption | with_reducible exact rngE_one _ _ (by simp) _ _ | with_reducible refine rngE_drew ?_ | with_reducible refine rngE_alloc ?_ (by (first | omega | (simp <;> omega) | simp)))); done)); (focus (first | omega | (simp <;> omega) | simp)); intro v6 w6 ho6 hg6; refine grownE_step (B := wr.heap.size) (w3 := wr) ?_ hg6 ?_ (own_blk ho5) ?_; (focus ((repeat' (first | with_reducible assumption | (with_reducible refine Below.drew ?_) | (with_reducible refine Below.alloc ?_ ?_ _) | (with_reducible exact Below.refl _ _) | omega | (simp <;> omega))); done)); (focus (first | omega | (simp <;> omega) | simp)); intro hb6 hs6))
                    | (((refine step_append_any (by rfl) _ _ 25 (by rfl) wr.heap.size 9 iE (.string ⟨#[]⟩) 1 16 Tryz.underlying25 hi1 hi2 hi3 hi4 rfl (by decide) (.slice (some ⟨wr.heap.size, 0, none⟩) 0 0) 0 [] ?_ ?_ (some ⟨g9b, 0, none⟩) O.length O.length (O.map Value.string) ?_ hln1 (hsrc1 _ ?_) (fun e => by cases e) hone1 (by unfold maxLen; omega) (by omega) ?_ ?_); (focus (rfl)); (focus ((repeat' (first | with_reducible refine World.ownsRow.drew ?_ | with_reducible exact ownsE_new _ _ _ (by simp) (by (first | omega | (simp <;> omega) | simp)) _ _ | with_reducible refine World.ownsRow.alloc ?_ _)); done)); (focus (rfl)); (focus ((repeat' (first | with_reducible assumption | (with_reducible refine Below.drew ?_) | (with_reducible refine Below.alloc ?_ ?_ _) | (with_reducible exact Below.refl _ _) | omega | (simp <;> omega))); done)); (focus (first | omega | (simp <;> omega) | simp)); intro v5 w5 ho5 hg5; refine grownE_step (B := wr.heap.size) (w3 := wr) ?_ hg5 ?_ ?_ ?_; (focus ((repeat' (first | with_reducible assumption | (with_reducible refine Below.drew ?_) | (with_reducible refine Below.alloc ?_ ?_ _) | (with_reducible exact Below.refl _ _) | omega | (simp <;> omega))); done)); (focus (first | omega | (simp <;> omega) | simp)); (focus (intro k hk; simp [Value.ownBlock] at hk; omega)); intro hb5 hs5; refine rngE_step (N := wr.heap.size + 1) (cs := [.string n]) ?_ hg5 ?_ ?_ ?_; (focus ((repeat' (first | with_reducible assumption | with_reducible exact rngE_one _ _ (by simp) _ _ | with_reducible refine rngE_drew ?_ | with_reducible refine rngE_alloc ?_ (by (first | omega | (simp <;> omega) | simp)))); done)); (focus (first | omega | (simp <;> omega) | simp)); (focus (simp [Value.ownBlock]; done)); intro hr5 hq5))
                    | (((refine step_append_any (by rfl) _ _ 25 (by rfl) wr.heap.size 9 iE (.string ⟨#[]⟩) 1 16 Tryz.underlying25 hi1 hi2 hi3 hi4 rfl (by decide) (.slice (some ⟨wr.heap.size + 1, 0, none⟩) 0 0) 0 [] ?_ ?_ (some ⟨g9b, 0, none⟩) O.length O.length (O.map Value.string) ?_ hln1 (hsrc1 _ ?_) (fun e => by cases e) hone1 (by unfold maxLen; omega) (by omega) ?_ ?_); (focus (rfl)); (focus ((repeat' (first | with_reducible refine World.ownsRow.drew ?_ | with_reducible exact ownsE_new _ _ _ (by simp) (by (first | omega | (simp <;> omega) | simp)) _ _ | with_reducible refine World.ownsRow.alloc ?_ _)); done)); (focus (rfl)); (focus ((repeat' (first | with_reducible assumption | (with_reducible refine Below.drew ?_) | (with_reducible refine Below.alloc ?_ ?_ _) | (with_reducible exact Below.refl _ _) | omega | (simp <;> omega))); done)); (focus (first | omega | (simp <;> omega) | simp)); intro v5 w5 ho5 hg5; refine grownE_step (B := wr.heap.size) (w3 := wr) ?_ hg5 ?_ ?_ ?_; (focus ((repeat' (first | with_reducible assumption | (with_reducible refine Below.drew ?_) | (with_reducible refine Below.alloc ?_ ?_ _) | (with_reducible exact Below.refl _ _) | omega | (simp <;> omega))); done)); (focus (first | omega | (simp <;> omega) | simp)); (focus (intro k hk; simp [Value.ownBlock] at hk; omega)); intro hb5 hs5; refine rngE_step (N := wr.heap.size) (cs := [.string n]) ?_ hg5 ?_ ?_ ?_; (focus ((repeat' (first | with_reducible assumption | with_reducible exact rngE_one _ _ (by simp) _ _ | with_reducible refine rngE_drew ?_ | with_reducible refine rngE_alloc ?_ (by (first | omega | (simp <;> omega) | simp)))); done)); (focus (first | omega | (simp <;> omega) | simp)); (focus (simp [Value.ownBlock]; done)); intro hr5 hq5))
                    | (((refine step_append_any (by rfl) _ _ 25 (by rfl) wr.heap.size 9 iE (.string ⟨#[]⟩) 1 16 Tryz.underlying25 hi1 hi2 hi3 hi4 rfl (by decide) (.slice (some ⟨wr.heap.size, 0, none⟩) 0 0) 0 [] ?_ ?_ (some ⟨g9b, 0, none⟩) O.length O.length (O.map Value.string) ?_ hln1 (hsrc1 _ ?_) (fun e => by cases e) hone1 (by unfold maxLen; omega) (by omega) ?_ ?_); (focus (rfl)); (focus ((repeat' (first | with_reducible refine World.ownsRow.drew ?_ | with_reducible exact ownsE_new _ _ _ (by simp) (by (first | omega | (simp <;> omega) | simp)) _ _ | with_reducible refine World.ownsRow.alloc ?_ _)); done)); (focus (rfl)); (focus ((repeat' (first | with_reducible assumption | (with_reducible refine Below.drew ?_) | (with_reducible refine Below.alloc ?_ ?_ _) | (with_reducible exact Below.refl _ _) | omega | (simp <;> omega))); done)); (focus (first | omega | (simp <;> omega) | simp)); intro v5 w5 ho5 hg5; refine grownE_step (B := wr.heap.size) (w3 := wr) ?_ hg5 ?_ ?_ ?_; (focus ((repeat' (first | with_reducible assumption | (with_reducible refine Below.drew ?_) | (with_reducible refine Below.alloc ?_ ?_ _) | (with_reducible exact Below.refl _ _) | omega | (simp <;> omega))); done)); (focus (first | omega | (simp <;> omega) | simp)); (focus (intro k hk; simp [Value.ownBlock] at hk; omega)); intro hb5 hs5)))
                all_goals
                  have HF7 := Lib.hid (HFIN.out w7 v7 hb7 (by simpa using ho7))
                  have HBD := Lib.hid (HBi.out.trans (hb7.mono HBi.out.size))
                  clear hb7 ho7
                  go_wp2
                  go_roundg (t.length - (k + 1))
                  case measure => omega
                  case rel => exact ⟨k + 1, nmB (t.take (k + 1)) p.data.toList, by simp, by omega, rfl, HF7.out, HBD.out⟩
              · go_wp2_with fail
                go_region_law
                  (first
                    | (((refine step_append_any (by rfl) _ _ 25 (by rfl) wr.heap.size 9 iE (.string ⟨#[]⟩) 1 16 Tryz.underlying25 hi1 hi2 hi3 hi4 rfl (by decide) v6 (0 + O.length + 1) ([] ++ (O.map Value.string) ++ [.string n]) ?_ ?_ (some ⟨g9b, O.length, none⟩) 0 (co - O.length) [] ?_ rfl (fun ad e j u hu => by simp at hu) (fun e => by cases e) (by simp) (by unfold maxLen; omega) (by omega) ?_ ?_); (focus (rfl)); (focus ((repeat' (first | with_reducible exact ho6 | with_reducible refine World.ownsRow.drew ?_ | with_reducible refine World.ownsRow.alloc ?_ _)); done)); (focus (rfl)); (focus (first | omega | (simp <;> omega) | simp)); intro v7 w7 ho7 hg7; refine grownE_step (B := wr.heap.size) (w3 := wr) ?_ hg7 ?_ (own_blk ho6) ?_; (focus ((repeat' (first | with_reducible assumption | (with_reducible refine Below.drew ?_) | (with_reducible refine Below.alloc ?_ ?_ _) | (with_reducible exact Below.refl _ _) | omega | (simp <;> omega))); done)); (focus (first | omega | (simp <;> omega) | simp)); intro hb7 hs7))
                    | (((refine step_append_any (by rfl) _ _ 25 (by rfl) wr.heap.size 9 iE (.string ⟨#[]⟩) 1 16 Tryz.underlying25 hi1 hi2 hi3 hi4 rfl (by decide) v5 (0 + O.length) ([] ++ (O.map Value.string)) ?_ ?_ (some ⟨w5.heap.size, 0, none⟩) 1 1 [.string n] ?_ rfl (fun ad e => srcE_some e ?_) (fun e => by cases e) hone2 (by unfold maxLen; omega) (by omega) ?_ ?_); (focus (rfl)); (focus ((repeat' (first | with_reducible exact ho5 | with_reducible refine World.ownsRow.drew ?_ | with_reducible refine World.ownsRow.alloc ?_ _)); done)); (focus (rfl)); (focus ((repeat' (first | with_reducible assumption | with_reducible exact rngE_one _ _ (by simp) _ _ | with_reducible refine rngE_drew ?_ | with_reducible refine rngE_alloc ?_ (by (first | omega | (simp <;> omega) | simp)))); done)); (focus (first | omega | (simp <;> omega) | simp)); intro v6 w6 ho6 hg6; refine grownE_step (B := wr.heap.size) (w3 := wr) ?_ hg6 ?_ (own_blk ho5) ?_; (focus ((repeat' (first | with_reducible assumption | (with_reducible refine Below.drew ?_) | (with_reducible refine Below.alloc ?_ ?_ _) | (with_reducible exact Below.refl _ _) | omega | (simp <;> omega))); done)); (focus (first | omega | (simp <;> omega) | simp)); intro hb6 hs6))
                    | (((refine step_append_any (by rfl) _ _ 25 (by rfl) wr.heap.size 9 iE (.string ⟨#[]⟩) 1 16 Tryz.underlying25 hi1 hi2 hi3 hi4 rfl (by decide) v5 (0 + O.length) ([] ++ (O.map Value.string)) ?_ ?_ (some ⟨wr.heap.size + 1, 0, none⟩) 1 1 [.string n] ?_ rfl (fun ad e => srcE_some e ?_) (fun e => by cases e) hone2 (by unfold maxLen; omega) (by omega) ?_ ?_); (focus (rfl)); (focus ((repeat' (first | with_reducible exact ho5 | with_reducible refine World.ownsRow.drew ?_ | with_reducible refine World.ownsRow.alloc ?_ _)); done)); (focus (rfl)); (focus ((repeat' (first | with_reducible assumption | with_reducible exact rngE_one _ _ (by simp) _ _ | with_reducible refine rngE_drew ?_ | with_reducible refine rngE_alloc ?_ (by (first | omega | (simp <;> omega) | simp)))); done)); (focus (first | omega | (simp <;> omega) | simp)); intro v6 w6 ho6 hg6; refine grownE_step (B := wr.heap.size) (w3 := wr) ?_ hg6 ?_ (own_blk ho5) ?_; (focus ((repeat' (first | with_reducible assumption | (with_reducible refine Below.drew ?_) | (with_reducible refine Below.alloc ?_ ?_ _) | (with_reducible exact Below.refl _ _) | omega | (simp <;> omega))); done)); (focus (first | omega | (simp <;> omega) | simp)); intro hb6 hs6))
                    | (((refine step_append_any (by rfl) _ _ 25 (by rfl) wr.heap.size 9 iE (.string ⟨#[]⟩) 1 16 Tryz.underlying25 hi1 hi2 hi3 hi4 rfl (by decide) v5 (0 + O.length) ([] ++ (O.map Value.string)) ?_ ?_ (some ⟨wr.heap.size, 0, none⟩) 1 1 [.string n] ?_ rfl (fun ad e => srcE_some e ?_) (fun e => by cases e) hone2 (by unfold maxLen; omega) (by omega) ?_ ?_); (focus (rfl)); (focus ((repeat' (first | with_reducible exact ho5 | with_reducible refine World.ownsRow.drew ?_ | with_reducible refine World.ownsRow.alloc ?_ _)); done)); (focus (rfl)); (focus ((repeat' (first | with_reducible assumption | with_reducible exact rngE_one _ _ (by simp) _ _ | with_reducible refine rngE_drew ?_ | with_reducible refine rngE_alloc ?_ (by (first | omega | (simp <;> omega) | simp)))); done)); (focus (first | omega | (simp <;> omega) | simp)); intro v6 w6 ho6 hg6; refine grownE_step (B := wr.heap.size) (w3 := wr) ?_ hg6 ?_ (own_blk ho5) ?_; (focus ((repeat' (first | with_reducible assumption | (with_reducible refine Below.drew ?_) | (with_reducible refine Below.alloc ?_ ?_ _) | (with_reducible exact Below.refl _ _) | omega | (simp <;> omega))); done)); (focus (first | omega | (simp <;> omega) | simp)); intro hb6 hs6))
                    | (((refine step_append_any (by rfl) _ _ 25 (by rfl) wr.heap.size 9 iE (.string ⟨#[]⟩) 1 16 Tryz.underlying25 hi1 hi2 hi3 hi4 rfl (by decide) (.slice (some ⟨wr.heap.size, 0, none⟩) 0 0) 0 [] ?_ ?_ (some ⟨g9b, 0, none⟩) O.length co (O.map Value.string) ?_ hln1 (hsrc1 _ ?_) (fun e => by cases e) hone1 (by unfold maxLen; omega) (by omega) ?_ ?_); (focus (rfl)); (focus ((repeat' (first | with_reducible refine World.ownsRow.drew ?_ | with_reducible exact ownsE_new _ _ _ (by simp) (by (first | omega | (simp <;> omega) | simp)) _ _ | with_reducible refine World.ownsRow.alloc ?_ _)); done)); (focus (rfl)); (focus ((repeat' (first | with_reducible assumption | (with_reducible refine Below.drew ?_) | (with_reducible refine Below.alloc ?_ ?_ _) | (with_reducible exact Below.refl _ _) | omega | (simp <;> omega))); done)); (focus (first | omega | (simp <;> omega) | simp)); intro v5 w5 ho5 hg5; refine grownE_step (B := wr.heap.size) (w3 := wr) ?_ hg5 ?_ ?_ ?_; (focus ((repeat' (first | with_reducible assumption | (with_reducible refine Below.drew ?_) | (with_reducible refine Below.alloc ?_ ?_ _) | (with_reducible exact Below.refl _ _) | omega | (simp <;> omega))); done)); (focus (first | omega | (simp <;> omega) | simp)); (focus (intro k hk; simp [Value.ownBlock] at hk; omega)); intro hb5 hs5; refine rngE_step (N := wr.heap.size + 1) (cs := [.string n]) ?_ hg5 ?_ ?_ ?_; (focus ((repeat' (first | with_reducible assumption | with_reducible exact rngE_one _ _ (by simp) _ _ | with_reducible refine rngE_drew ?_ | with_reducible refine rngE_alloc ?_ (by (first | omega | (simp <;> omega) | simp)))); done)); (focus (first | omega | (simp <;> omega) | simp)); (focus (simp [Value.ownBlock]; done)); intro hr5 hq5))
                    | (((refine step_append_any (by rfl) _ _ 25 (by rfl) wr.heap.size 9 iE (.string ⟨#[]⟩) 1 16 Tryz.underlying25 hi1 hi2 hi3 hi4 rfl (by decide) (.slice (some ⟨wr.heap.size + 1, 0, none⟩) 0 0) 0 [] ?_ ?_ (some ⟨g9b, 0, none⟩) O.length co (O.map Value.string) ?_ hln1 (hsrc1 _ ?_) (fun e => by cases e) hone1 (by unfold maxLen; omega) (by omega) ?_ ?_); (focus (rfl)); (focus ((repeat' (first | with_reducible refine World.ownsRow.drew ?_ | with_reducible exact ownsE_new _ _ _ (by simp) (by (first | omega | (simp <;> omega) | simp)) _ _ | with_reducible refine World.ownsRow.alloc ?_ _)); done)); (focus (rfl)); (focus ((repeat' (first | with_reducible assumption | (with_reducible refine Below.drew ?_) | (with_reducible refine Below.alloc ?_ ?_ _) | (with_reducible exact Below.refl _ _) | omega | (simp <;> omega))); done)); (focus (first | omega | (simp <;> omega) | simp)); intro v5 w5 ho5 hg5; refine grownE_step (B := wr.heap.size) (w3 := wr) ?_ hg5 ?_ ?_ ?_; (focus ((repeat' (first | with_reducible assumption | (with_reducible refine Below.drew ?_) | (with_reducible refine Below.alloc ?_ ?_ _) | (with_reducible exact Below.refl _ _) | omega | (simp <;> omega))); done)); (focus (first | omega | (simp <;> omega) | simp)); (focus (intro k hk; simp [Value.ownBlock] at hk; omega)); intro hb5 hs5; refine rngE_step (N := wr.heap.size) (cs := [.string n]) ?_ hg5 ?_ ?_ ?_; (focus ((repeat' (first | with_reducible assumption | with_reducible exact rngE_one _ _ (by simp) _ _ | with_reducible refine rngE_drew ?_ | with_reducible refine rngE_alloc ?_ (by (first | omega | (simp <;> omega) | simp)))); done)); (focus (first | omega | (simp <;> omega) | simp)); (focus (simp [Value.ownBlock]; done)); intro hr5 hq5))
                    | (((refine step_append_any (by rfl) _ _ 25 (by rfl) wr.heap.size 9 iE (.string ⟨#[]⟩) 1 16 Tryz.underlying25 hi1 hi2 hi3 hi4 rfl (by decide) (.slice (some ⟨wr.heap.size, 0, none⟩) 0 0) 0 [] ?_ ?_ (some ⟨g9b, 0, none⟩) O.length co (O.map Value.string) ?_ hln1 (hsrc1 _ ?_) (fun e => by cases e) hone1 (by unfold maxLen; omega) (by omega) ?_ ?_); (focus (rfl)); (focus ((repeat' (first | with_reducible refine World.ownsRow.drew ?_ | with_reducible exact ownsE_new _ _ _ (by simp) (by (first | omega | (simp <;> omega) | simp)) _ _ | with_reducible refine World.ownsRow.alloc ?_ _)); done)); (focus (rfl)); (focus ((repeat' (first | with_reducible assumption | (with_reducible refine Below.drew ?_) | (with_reducible refine Below.alloc ?_ ?_ _) | (with_reducible exact Below.refl _ _) | omega | (simp <;> omega))); done)); (focus (first | omega | (simp <;> omega) | simp)); intro v5 w5 ho5 hg5; refine grownE_step (B := wr.heap.size) (w3 := wr) ?_ hg5 ?_ ?_ ?_; (focus ((repeat' (first | with_reducible assumption | (with_reducible refine Below.drew ?_) | (with_reducible refine Below.alloc ?_ ?_ _) | (with_reducible exact Below.refl _ _) | omega | (simp <;> omega))); done)); (focus (first | omega | (simp <;> omega) | simp)); (focus (intro k hk; simp [Value.ownBlock] at hk; omega)); intro hb5 hs5)))
                all_goals
                  have HF7 := Lib.hid (HFIN.out w7 v7 hb7 (by simpa using ho7))
                  have HBD := Lib.hid (HBi.out.trans (hb7.mono HBi.out.size))
                  clear hb7 ho7
                  go_wp2
                  go_roundg (t.length - (k + 1))
                  case measure => omega
                  case rel => exact ⟨k + 1, nmB (t.take (k + 1)) p.data.toList, by simp, by omega, rfl, HF7.out, HBD.out⟩
      · have g1 : ((bs (par9 (pl x))).toList == p.toList) = false := by rw [Lib.toList_data, Lib.toList_data, bs_list, beq_eq_false_iff_ne]; exact hp
        have HNX := Lib.hid (HNT.out.trans (if_neg hp))
        obtain ⟨pp, hpp⟩ : ∃ s, bs (par9 (pl x)) = s := ⟨_, rfl⟩
        rw [hpp] at g1 ⊢
        clear hp hpp
        go_wp2
        go_roundg (t.length - (k + 1))
        case measure => omega
        case rel => exact ⟨k + 1, O, by simp, by omega, HNX.out.symm, HOW1.out, HB1.out⟩
    · have hlt' : ¬ (k : Int) < (t.length : Int) := by omega
      have e9 : t.take k = t := List.take_of_length_le (by omega)
      have e8 := HO.out
      rw [e9] at e8
      subst ev
      clear hro
      go_wp2
      go_ret
      exact ⟨ao, co, rfl, e8 ▸ HRO.out, HB.out⟩
end Go.Proofs.YtemnlolkmjdefaaGreatDoor
