/-
  The law FoldEmpty walked over Fold10: for every stack and number it returns true and changes nothing that was there. Conditions: package fold answers as Fold10 says; the stack lies in memory.
-/
import Derived.Test.YtkannambildnoaaPkb5
import Derived.Deep.RegionLaw
namespace Go.Proofs.Ytkannambildnoaa
open Go.RowKit

/-- A stack's headers: what its cells hold. -/
theorem stk_heads {w : World} {a : Option Addr} {cap : Nat} {S : List (List Ent)} (h : Stk w a cap S) : ∃ hs : List Value, hs.length = S.length ∧ (∀ (j : Nat) u, hs[j]? = some u → ∃ l a' cap', S[j]? = some l ∧ u = .slice a' l.length cap' ∧ Ents w a' cap' l) ∧ (∀ ad, a = some ad → ∀ (j : Nat) u, hs[j]? = some u → w.cell? (ad.add j) = some u) ∧ (a = none → S.length = 0) := by
  rcases h.2 with rfl | ⟨b, off, rfl, _, hc⟩
  · exact ⟨[], rfl, by simp, by simp, fun _ => rfl⟩
  · obtain ⟨hs, h1, h2⟩ := list_of (fun (u : Value) (i : Nat) => w.cell? ⟨b, off + i, none⟩ = some u ∧ ∃ l a' cap', S[i]? = some l ∧ u = .slice a' l.length cap' ∧ Ents w a' cap' l) S.length id fun i hi => by
      obtain ⟨a', cap', h3, h4⟩ := hc i S[i] (List.getElem?_eq_getElem hi)
      exact ⟨_, h3, S[i], a', cap', List.getElem?_eq_getElem hi, rfl, h4⟩
    refine ⟨hs, h1, fun j u hu => (h2 j u hu).2, fun ad e j u hu => ?_, fun e => by cases e⟩
    cases e
    rw [Addr.add_lit]
    exact (h2 j u hu).1
theorem own_stk {w : World} {B : Nat} {v : Value} {xs : List Value} {T : List (List Ent)} (h : w.ownsRow B 23 1 v T.length xs) (hx : ∀ (j : Nat) u, xs[j]? = some u → ∃ l a' cap', T[j]? = some l ∧ u = .slice a' l.length cap' ∧ Ents w a' cap' l) : ∃ a cap, v = .slice a T.length cap ∧ Stk w a cap T := by
  obtain ⟨hl, ⟨rfl, h0⟩ | ⟨g, cap, cur, rfl, _, hbk, hc, _, _, ht⟩⟩ := h
  · exact ⟨none, 0, by rw [h0], by omega, .inl (List.length_eq_zero_iff.1 h0)⟩
  · refine ⟨_, cap, rfl, hc, .inr ⟨g, 0, rfl, (Array.getElem?_eq_some_iff.1 hbk).1, fun j l hj => ?_⟩⟩
    have hlt : j < T.length := (List.getElem?_eq_some_iff.1 hj).1
    have h4 := congrArg (·[j]?) ht
    simp only [List.getElem?_take, Nat.mul_one, if_pos hlt, Array.getElem?_toList] at h4
    obtain ⟨u, hu⟩ : ∃ u, xs[j]? = some u := ⟨_, List.getElem?_eq_getElem (by omega)⟩
    obtain ⟨l', a', cap', h5, rfl, h6⟩ := hx j u hu
    obtain rfl : l' = l := Option.some.inj (h5.symm.trans hj)
    refine ⟨a', cap', ?_, h6⟩
    rw [Lib.cell_of_heap hbk, Nat.zero_add, h4, hu]
theorem infoEnsR : (Try.prog.info? 23).map (fun i => (i.zero, i.size, i.bytes)) = some (some (.slice none 0 0), 1, 24) := by kernel_rfl
theorem heads_put {w : World} {hs : List Value} {S : List (List Ent)} {k : Nat} (hl : hs.length = S.length) (hk : k ≤ S.length) (h : ∀ (j : Nat) u, hs[j]? = some u → ∃ l a' cap', S[j]? = some l ∧ u = .slice a' l.length cap' ∧ Ents w a' cap' l) :
    ∀ (j : Nat) u, (hs.take k ++ Value.slice none 0 0 :: hs.drop k)[j]? = some u → ∃ l a' cap', (S.take k ++ [] :: S.drop k)[j]? = some l ∧ u = .slice a' l.length cap' ∧ Ents w a' cap' l := by
  intro j u hu
  have e1 : (hs.take k).length = k := by rw [List.length_take]; omega
  have e2 : (S.take k).length = k := by rw [List.length_take]; omega
  by_cases h1 : j < k
  · rw [List.getElem?_append_left (by omega), List.getElem?_take_of_lt h1] at hu
    rw [List.getElem?_append_left (by omega), List.getElem?_take_of_lt h1]
    exact h j u hu
  · rw [List.getElem?_append_right (by omega), e1] at hu
    rw [List.getElem?_append_right (by omega), e2]
    obtain ⟨m, hm⟩ : ∃ m, j - k = m := ⟨_, rfl⟩
    rw [hm] at hu ⊢
    cases m with
    | zero =>
      obtain rfl : Value.slice none 0 0 = u := by simpa using hu
      exact ⟨[], none, 0, rfl, rfl, ents_nil _ _ _⟩
    | succ m =>
      rw [List.getElem?_cons_succ, List.getElem?_drop] at hu
      rw [List.getElem?_cons_succ, List.getElem?_drop]
      exact h (k + m) u hu
theorem stk_put (S : List (List Ent)) (k : Nat) : stV (S.take k ++ [] :: S.drop k) = if S.length + 1 ≤ 9 ∧ ∀ l ∈ S, RightL l then stk S else [] := by
  unfold stV
  rw [stk_insert, List.take_append_drop]
  congr 1
  rw [eq_iff_iff, List.length_append, List.length_cons, List.length_take, List.length_drop]
  refine and_congr ⟨fun h => by omega, fun h => by omega⟩ ⟨fun h l hl => h l ?_, fun h l hl => ?_⟩
  · rw [← List.take_append_drop k S] at hl
    rcases List.mem_append.1 hl with hl | hl
    · exact List.mem_append_left _ hl
    · exact List.mem_append_right _ (List.mem_cons_of_mem _ hl)
  · rcases List.mem_append.1 hl with hl | hl
    · exact h l (List.mem_of_mem_take hl)
    · rcases List.mem_cons.1 hl with rfl | hl
      · exact right_nil
      · exact h l (List.mem_of_mem_drop hl)
set_option maxRecDepth 10000 in
set_option maxHeartbeats 8000000 in
theorem lawEmpty (L : Fold10) (S : List (List Ent)) (a : Option Addr) (cap : Nat) (n : Nat) (W : World) (hg : Env W) (hk : Stk W a cap S) (hn : n < 256) : Calls Try.prog 7 #[.slice a S.length cap, .int .u8 (n : Int)] W fun e w' => e = .returned (.bool true) ∧ Below W.heap.size W w' := by
  have HS0 := Lib.hid (st10_self hg)
  have HK := Lib.hid hk
  clear hg hk
  by_cases hf : FewOK S
  · have hF1 : (if FewOK S then (1 : Int) else 0) = 1 := if_pos hf
    have HSS := Lib.hid (few_sm hf)
    clear hf
    by_cases h8 : (8 : Int) < (S.length : Int)
    · go_enter Try.func7, Try.ntmps7
      go_wp2_with fail
      refine (awake10 L _ HS0.out.env).mono ?_
      rintro e w1 ⟨rfl, hb⟩
      have HS1 := Lib.hid (HS0.out.next hb)
      replace HK := Lib.hid (HK.out.below hb)
      clear hb
      go_wp2_with fail
      refine (few10 S a cap _ HK.out).mono ?_
      rintro e w9 ⟨rfl, rfl⟩
      rw [hF1]
      go_wp2_with fail
      refine (awake10 L _ HS1.out.env).mono ?_
      rintro e w2 ⟨rfl, hb⟩
      have HS2 := Lib.hid (HS1.out.next hb)
      clear hb
      go_wp2
      go_ret
      exact ⟨by first | rfl | simp, HS2.out.below⟩
    · obtain ⟨k, hk⟩ : ∃ k, n % (S.length + 1) = k := ⟨_, rfl⟩
      have hkl : k ≤ S.length := by have := Nat.mod_lt n (show 0 < S.length + 1 by omega); omega
      have hr : ((n : Int) % ((S.length : Int) + 1)) = (k : Int) := by rw [← hk, show ((S.length : Int) + 1) = ((S.length + 1 : Nat) : Int) by omega, Int.natCast_emod]
      have hw1 : IntKind.i64.wrap (n : Int) = (n : Int) := IntWalk.i64_in _ (by omega)
      have hw2 : IntKind.i64.wrap ((S.length : Int) + 1) = (S.length : Int) + 1 := IntWalk.i64_in _ (by omega)
      have hw3 : IntKind.i64.wrap (k : Int) = (k : Int) := IntWalk.i64_in _ (by omega)
      have hz : ((S.length : Int) + 1 == 0) = false := by rw [beq_eq_false_iff_ne]; omega
      clear hk
      go_enter Try.func7, Try.ntmps7
      go_wp2_with fail
      refine (awake10 L _ HS0.out.env).mono ?_
      rintro e w1 ⟨rfl, hb⟩
      have HS1 := Lib.hid (HS0.out.next hb)
      replace HK := Lib.hid (HK.out.below hb)
      clear hb
      go_wp2_with fail
      refine (few10 S a cap _ HK.out).mono ?_
      rintro e w9 ⟨rfl, rfl⟩
      rw [hF1]
      go_wp2
      rw [hr]
      obtain ⟨hs, hl, hent, hsrc, hnone⟩ := stk_heads HK.out
      obtain ⟨iE, hi1, hi2, hi3, hi4⟩ := info_parts infoEnsR
      have k0 : (0 : Int) ≤ (k : Int) := by omega
      have k1 : (k : Int) ≤ (cap : Int) := by have := HK.out.1; omega
      have k2 : (k : Int) ≤ (S.length : Int) := by omega
      have k3 : (S.length : Int) ≤ (cap : Int) := by have := HK.out.1; omega
      have HONE := Lib.hid (fun u (hu : u ∈ hs) => by
        obtain ⟨j, hj, rfl⟩ := List.mem_iff_getElem.1 hu
        obtain ⟨l, a', cap', _, h9, _⟩ := hent j _ (List.getElem?_eq_getElem hj)
        rw [h9]
        rfl : ∀ u ∈ hs, u.oneCell' = true)
      have hone2 : ∀ u ∈ [Value.slice none 0 0], u.oneCell' = true := fun u hu => by rw [List.mem_singleton.1 hu]; rfl
      have HVV := Lib.hid (show stV (S.take k ++ [] :: S.drop k) = stV S by
        rw [stk_put]
        unfold stV
        congr 1
        rw [eq_iff_iff]
        exact and_congr_left fun _ => ⟨fun _ => by omega, fun _ => by omega⟩)
      have HVL := Lib.hid (show (stV S).length ≤ maxLen by have := (stV_tree S).2; unfold maxLen; omega)
      have HTS := Lib.hid (show (S.take k ++ [] :: S.drop k).length ≤ 100 ∧ ∀ l ∈ S.take k ++ [] :: S.drop k, Sm l from ⟨by rw [List.length_append, List.length_cons, List.length_take, List.length_drop]; omega, fun l hl => by
        rcases List.mem_append.1 hl with hl | hl
        · exact HSS.out.2 l (List.mem_of_mem_take hl)
        · rcases List.mem_cons.1 hl with rfl | hl
          · exact sm_nil
          · exact HSS.out.2 l (List.mem_of_mem_drop hl)⟩)
      have HFIN := Lib.hid (fun (w7 : World) (v7 : Value) (hb : Below w1.heap.size w1 w7) (ho : w7.ownsRow w1.heap.size 23 1 v7 (S.length + 1) (hs.take k ++ .slice none 0 0 :: hs.drop k)) => (own_stk (T := S.take k ++ [] :: S.drop k) (w := w7) (B := w1.heap.size) (v := v7) (xs := hs.take k ++ .slice none 0 0 :: hs.drop k) (by rw [show (S.take k ++ [] :: S.drop k).length = S.length + 1 by rw [List.length_append, List.length_cons, List.length_take, List.length_drop]; omega]; exact ho) (heads_put hl hkl fun j u hu => by
        obtain ⟨l, a', cap', h1, h2, h3⟩ := hent j u hu
        exact ⟨l, a', cap', h1, h2, RowN.below h3 hb⟩)))
      obtain ⟨T, hT⟩ : ∃ T, S.take k ++ [] :: S.drop k = T := ⟨_, rfl⟩
      rw [hT] at HVV HTS HFIN
      have HSRC := Lib.hid hsrc
      clear hent hsrc hT
      cases a with
      | none =>
        obtain rfl : S = [] := List.length_eq_zero_iff.1 (hnone rfl)
        obtain rfl : k = 0 := by simpa using hkl
        obtain rfl : hs = [] := List.length_eq_zero_iff.1 hl
        clear hnone hr hw2 h8 hz hkl k1 k2 k3 k0 hw3
        go_region_law
          (first
            | (((refine step_append_any (by rfl) _ _ 22 (by rfl) w1.heap.size 23 iE (.slice none 0 0) 1 24 Try.underlying22 hi1 hi2 hi3 hi4 rfl (by decide) v6 (0 + 0 + 1) ([] ++ [] ++ [.slice none 0 0]) ?_ ?_ (none) 0 cap [] ?_ rfl (fun ad e => by cases e) (fun _ => rfl) (by simp) (by unfold maxLen; omega) (by omega) ?_ ?_); (focus (rfl)); (focus ((repeat' (first | with_reducible exact ho6 | with_reducible refine World.ownsRow.drew ?_ | with_reducible refine World.ownsRow.alloc ?_ _)); done)); (focus (rfl)); (focus (first | omega | (simp <;> omega) | simp)); intro v7 w7 ho7 hg7; refine grownE_step (B := w1.heap.size) (w3 := w1) ?_ hg7 ?_ (own_blk ho6) ?_; (focus ((repeat' (first | with_reducible assumption | (with_reducible refine Below.drew ?_) | (with_reducible refine Below.alloc ?_ ?_ _) | (with_reducible exact Below.refl _ _) | omega | (simp <;> omega))); done)); (focus (first | omega | (simp <;> omega) | simp)); intro hb7 hs7))
            | (((refine step_append_any (by rfl) _ _ 22 (by rfl) w1.heap.size 23 iE (.slice none 0 0) 1 24 Try.underlying22 hi1 hi2 hi3 hi4 rfl (by decide) v5 (0 + 0) ([] ++ []) ?_ ?_ (some ⟨w5.heap.size, 0, none⟩) 1 1 [.slice none 0 0] ?_ rfl (fun ad e => srcE_some e ?_) (fun e => by cases e) hone2 (by unfold maxLen; omega) (by omega) ?_ ?_); (focus (rfl)); (focus ((repeat' (first | with_reducible exact ho5 | with_reducible refine World.ownsRow.drew ?_ | with_reducible refine World.ownsRow.alloc ?_ _)); done)); (focus (rfl)); (focus ((repeat' (first | with_reducible assumption | with_reducible exact rngE_one _ _ (by simp) _ _ | with_reducible refine rngE_drew ?_ | with_reducible refine rngE_alloc ?_ (by (first | omega | (simp <;> omega) | simp)))); done)); (focus (first | omega | (simp <;> omega) | simp)); intro v6 w6 ho6 hg6; refine grownE_step (B := w1.heap.size) (w3 := w1) ?_ hg6 ?_ (own_blk ho5) ?_; (focus ((repeat' (first | with_reducible assumption | (with_reducible refine Below.drew ?_) | (with_reducible refine Below.alloc ?_ ?_ _) | (with_reducible exact Below.refl _ _) | omega | (simp <;> omega))); done)); (focus (first | omega | (simp <;> omega) | simp)); intro hb6 hs6))
            | (((refine step_append_any (by rfl) _ _ 22 (by rfl) w1.heap.size 23 iE (.slice none 0 0) 1 24 Try.underlying22 hi1 hi2 hi3 hi4 rfl (by decide) v5 (0 + 0) ([] ++ []) ?_ ?_ (some ⟨w1.heap.size + 1, 0, none⟩) 1 1 [.slice none 0 0] ?_ rfl (fun ad e => srcE_some e ?_) (fun e => by cases e) hone2 (by unfold maxLen; omega) (by omega) ?_ ?_); (focus (rfl)); (focus ((repeat' (first | with_reducible exact ho5 | with_reducible refine World.ownsRow.drew ?_ | with_reducible refine World.ownsRow.alloc ?_ _)); done)); (focus (rfl)); (focus ((repeat' (first | with_reducible assumption | with_reducible exact rngE_one _ _ (by simp) _ _ | with_reducible refine rngE_drew ?_ | with_reducible refine rngE_alloc ?_ (by (first | omega | (simp <;> omega) | simp)))); done)); (focus (first | omega | (simp <;> omega) | simp)); intro v6 w6 ho6 hg6; refine grownE_step (B := w1.heap.size) (w3 := w1) ?_ hg6 ?_ (own_blk ho5) ?_; (focus ((repeat' (first | with_reducible assumption | (with_reducible refine Below.drew ?_) | (with_reducible refine Below.alloc ?_ ?_ _) | (with_reducible exact Below.refl _ _) | omega | (simp <;> omega))); done)); (focus (first | omega | (simp <;> omega) | simp)); intro hb6 hs6))
            | (((refine step_append_any (by rfl) _ _ 22 (by rfl) w1.heap.size 23 iE (.slice none 0 0) 1 24 Try.underlying22 hi1 hi2 hi3 hi4 rfl (by decide) v5 (0 + 0) ([] ++ []) ?_ ?_ (some ⟨w1.heap.size, 0, none⟩) 1 1 [.slice none 0 0] ?_ rfl (fun ad e => srcE_some e ?_) (fun e => by cases e) hone2 (by unfold maxLen; omega) (by omega) ?_ ?_); (focus (rfl)); (focus ((repeat' (first | with_reducible exact ho5 | with_reducible refine World.ownsRow.drew ?_ | with_reducible refine World.ownsRow.alloc ?_ _)); done)); (focus (rfl)); (focus ((repeat' (first | with_reducible assumption | with_reducible exact rngE_one _ _ (by simp) _ _ | with_reducible refine rngE_drew ?_ | with_reducible refine rngE_alloc ?_ (by (first | omega | (simp <;> omega) | simp)))); done)); (focus (first | omega | (simp <;> omega) | simp)); intro v6 w6 ho6 hg6; refine grownE_step (B := w1.heap.size) (w3 := w1) ?_ hg6 ?_ (own_blk ho5) ?_; (focus ((repeat' (first | with_reducible assumption | (with_reducible refine Below.drew ?_) | (with_reducible refine Below.alloc ?_ ?_ _) | (with_reducible exact Below.refl _ _) | omega | (simp <;> omega))); done)); (focus (first | omega | (simp <;> omega) | simp)); intro hb6 hs6))
            | (((refine step_append_any (by rfl) _ _ 22 (by rfl) w1.heap.size 23 iE (.slice none 0 0) 1 24 Try.underlying22 hi1 hi2 hi3 hi4 rfl (by decide) (.slice (some ⟨w1.heap.size, 0, none⟩) 0 0) 0 [] ?_ ?_ (none) 0 cap [] ?_ rfl (fun ad e => by cases e) (fun _ => rfl) (by simp) (by unfold maxLen; omega) (by omega) ?_ ?_); (focus (rfl)); (focus ((repeat' (first | with_reducible refine World.ownsRow.drew ?_ | with_reducible exact ownsE_new _ _ _ (by simp) (by (first | omega | (simp <;> omega) | simp)) _ _ | with_reducible refine World.ownsRow.alloc ?_ _)); done)); (focus (rfl)); (focus (first | omega | (simp <;> omega) | simp)); intro v5 w5 ho5 hg5; refine grownE_step (B := w1.heap.size) (w3 := w1) ?_ hg5 ?_ ?_ ?_; (focus ((repeat' (first | with_reducible assumption | (with_reducible refine Below.drew ?_) | (with_reducible refine Below.alloc ?_ ?_ _) | (with_reducible exact Below.refl _ _) | omega | (simp <;> omega))); done)); (focus (first | omega | (simp <;> omega) | simp)); (focus (intro k hk; simp [Value.ownBlock] at hk; omega)); intro hb5 hs5; refine rngE_step (N := w1.heap.size + 1) (cs := [.slice none 0 0]) ?_ hg5 ?_ ?_ ?_; (focus ((repeat' (first | with_reducible assumption | with_reducible exact rngE_one _ _ (by simp) _ _ | with_reducible refine rngE_drew ?_ | with_reducible refine rngE_alloc ?_ (by (first | omega | (simp <;> omega) | simp)))); done)); (focus (first | omega | (simp <;> omega) | simp)); (focus (simp [Value.ownBlock]; done)); intro hr5 hq5))
            | (((refine step_append_any (by rfl) _ _ 22 (by rfl) w1.heap.size 23 iE (.slice none 0 0) 1 24 Try.underlying22 hi1 hi2 hi3 hi4 rfl (by decide) (.slice (some ⟨w1.heap.size + 1, 0, none⟩) 0 0) 0 [] ?_ ?_ (none) 0 cap [] ?_ rfl (fun ad e => by cases e) (fun _ => rfl) (by simp) (by unfold maxLen; omega) (by omega) ?_ ?_); (focus (rfl)); (focus ((repeat' (first | with_reducible refine World.ownsRow.drew ?_ | with_reducible exact ownsE_new _ _ _ (by simp) (by (first | omega | (simp <;> omega) | simp)) _ _ | with_reducible refine World.ownsRow.alloc ?_ _)); done)); (focus (rfl)); (focus (first | omega | (simp <;> omega) | simp)); intro v5 w5 ho5 hg5; refine grownE_step (B := w1.heap.size) (w3 := w1) ?_ hg5 ?_ ?_ ?_; (focus ((repeat' (first | with_reducible assumption | (with_reducible refine Below.drew ?_) | (with_reducible refine Below.alloc ?_ ?_ _) | (with_reducible exact Below.refl _ _) | omega | (simp <;> omega))); done)); (focus (first | omega | (simp <;> omega) | simp)); (focus (intro k hk; simp [Value.ownBlock] at hk; omega)); intro hb5 hs5; refine rngE_step (N := w1.heap.size) (cs := [.slice none 0 0]) ?_ hg5 ?_ ?_ ?_; (focus ((repeat' (first | with_reducible assumption | with_reducible exact rngE_one _ _ (by simp) _ _ | with_reducible refine rngE_drew ?_ | with_reducible refine rngE_alloc ?_ (by (first | omega | (simp <;> omega) | simp)))); done)); (focus (first | omega | (simp <;> omega) | simp)); (focus (simp [Value.ownBlock]; done)); intro hr5 hq5))
            | (((refine step_append_any (by rfl) _ _ 22 (by rfl) w1.heap.size 23 iE (.slice none 0 0) 1 24 Try.underlying22 hi1 hi2 hi3 hi4 rfl (by decide) (.slice (some ⟨w1.heap.size, 0, none⟩) 0 0) 0 [] ?_ ?_ (none) 0 cap [] ?_ rfl (fun ad e => by cases e) (fun _ => rfl) (by simp) (by unfold maxLen; omega) (by omega) ?_ ?_); (focus (rfl)); (focus ((repeat' (first | with_reducible refine World.ownsRow.drew ?_ | with_reducible exact ownsE_new _ _ _ (by simp) (by (first | omega | (simp <;> omega) | simp)) _ _ | with_reducible refine World.ownsRow.alloc ?_ _)); done)); (focus (rfl)); (focus (first | omega | (simp <;> omega) | simp)); intro v5 w5 ho5 hg5; refine grownE_step (B := w1.heap.size) (w3 := w1) ?_ hg5 ?_ ?_ ?_; (focus ((repeat' (first | with_reducible assumption | (with_reducible refine Below.drew ?_) | (with_reducible refine Below.alloc ?_ ?_ _) | (with_reducible exact Below.refl _ _) | omega | (simp <;> omega))); done)); (focus (first | omega | (simp <;> omega) | simp)); (focus (intro k hk; simp [Value.ownBlock] at hk; omega)); intro hb5 hs5)))
        all_goals
          obtain ⟨a7, cap7, rfl, hk7⟩ := HFIN.out w7 v7 hb7 (by simpa using ho7)
          have HS7 := Lib.hid (HS1.out.next hb7)
          have HK7 := Lib.hid hk7
          replace HK := Lib.hid (HK.out.below hb7)
          clear hb7 ho7 hk7
          go_wp2_with fail
          refine (L.stack [] _ cap _ HS7.out.env HK.out HSS.out.1 HSS.out.2).mono ?_
          rintro e w8 ⟨a8, cap8, rfl, h8', hb⟩
          have HS8 := Lib.hid (HS7.out.next hb)
          have HE8 := Lib.hid h8'
          replace HK7 := Lib.hid (HK7.out.below hb)
          clear hb h8'
          go_wp2_with fail
          refine (L.stack T a7 cap7 _ HS8.out.env HK7.out HTS.out.1 HTS.out.2).mono ?_
          rintro e w10 ⟨a10, cap10, rfl, h10, hb⟩
          rw [HVV.out] at h10 ⊢
          have HS10 := Lib.hid (HS8.out.next hb)
          have HE10 := Lib.hid h10
          replace HE8 := Lib.hid (RowN.below HE8.out hb)
          clear hb h10
          go_wp2_with fail
          refine (same9 _ _ _ _ _ _ _ HE8.out HE10.out HVL.out).mono ?_
          rintro e w11 ⟨rfl, hb⟩
          have HS11 := Lib.hid (HS10.out.next hb)
          clear hb
          rw [if_pos rfl]
          go_wp2
          go_ret
          exact ⟨by first | rfl | simp, HS11.out.below⟩
      | some ad =>
        clear hnone
        have hln1 : (hs.take k).length = k * 1 := by rw [List.length_take]; omega
        have hln3 : (hs.drop k).length = (S.length - k) * 1 := by rw [List.length_drop]; omega
        have hsrc1 : ∀ W', Below w1.heap.size w1 W' → ∀ ad', some ad = some ad' → ∀ (j : Nat) u, (hs.take k)[j]? = some u → W'.cell? (ad'.add j) = some u := fun W' hb ad' e j u hu => by
          rw [List.getElem?_take] at hu
          split at hu
          · have h1 := HSRC.out ad' e j u hu
            exact (hb.cell (World.block_lt_of_cell? w1 _ h1)).trans h1
          · cases hu
        have hone1 : ∀ u ∈ hs.take k, u.oneCell' = true := fun u hu => HONE.out u (List.mem_of_mem_take hu)
        have hone3 : ∀ u ∈ hs.drop k, u.oneCell' = true := fun u hu => HONE.out u (List.mem_of_mem_drop hu)
        by_cases hck : cap = k
        · obtain rfl : k = S.length := by omega
          subst hck
          go_region_law
            (first
              | (((refine step_append_any (by rfl) _ _ 22 (by rfl) w1.heap.size 23 iE (.slice none 0 0) 1 24 Try.underlying22 hi1 hi2 hi3 hi4 rfl (by decide) v6 (0 + S.length + 1) ([] ++ (hs.take S.length) ++ [.slice none 0 0]) ?_ ?_ (some ad) 0 0 [] ?_ rfl (fun ad e j u hu => by simp at hu) (fun _ => rfl) (by simp) (by unfold maxLen; omega) (by omega) ?_ ?_); (focus (rfl)); (focus ((repeat' (first | with_reducible exact ho6 | with_reducible refine World.ownsRow.drew ?_ | with_reducible refine World.ownsRow.alloc ?_ _)); done)); (focus (rfl)); (focus (first | omega | (simp <;> omega) | simp)); intro v7 w7 ho7 hg7; refine grownE_step (B := w1.heap.size) (w3 := w1) ?_ hg7 ?_ (own_blk ho6) ?_; (focus ((repeat' (first | with_reducible assumption | (with_reducible refine Below.drew ?_) | (with_reducible refine Below.alloc ?_ ?_ _) | (with_reducible exact Below.refl _ _) | omega | (simp <;> omega))); done)); (focus (first | omega | (simp <;> omega) | simp)); intro hb7 hs7))
              | (((refine step_append_any (by rfl) _ _ 22 (by rfl) w1.heap.size 23 iE (.slice none 0 0) 1 24 Try.underlying22 hi1 hi2 hi3 hi4 rfl (by decide) v5 (0 + S.length) ([] ++ (hs.take S.length)) ?_ ?_ (some ⟨w5.heap.size, 0, none⟩) 1 1 [.slice none 0 0] ?_ rfl (fun ad e => srcE_some e ?_) (fun e => by cases e) hone2 (by unfold maxLen; omega) (by omega) ?_ ?_); (focus (rfl)); (focus ((repeat' (first | with_reducible exact ho5 | with_reducible refine World.ownsRow.drew ?_ | with_reducible refine World.ownsRow.alloc ?_ _)); done)); (focus (rfl)); (focus ((repeat' (first | with_reducible assumption | with_reducible exact rngE_one _ _ (by simp) _ _ | with_reducible refine rngE_drew ?_ | with_reducible refine rngE_alloc ?_ (by (first | omega | (simp <;> omega) | simp)))); done)); (focus (first | omega | (simp <;> omega) | simp)); intro v6 w6 ho6 hg6; refine grownE_step (B := w1.heap.size) (w3 := w1) ?_ hg6 ?_ (own_blk ho5) ?_; (focus ((repeat' (first | with_reducible assumption | (with_reducible refine Below.drew ?_) | (with_reducible refine Below.alloc ?_ ?_ _) | (with_reducible exact Below.refl _ _) | omega | (simp <;> omega))); done)); (focus (first | omega | (simp <;> omega) | simp)); intro hb6 hs6))
              | (((refine step_append_any (by rfl) _ _ 22 (by rfl) w1.heap.size 23 iE (.slice none 0 0) 1 24 Try.underlying22 hi1 hi2 hi3 hi4 rfl (by decide) v5 (0 + S.length) ([] ++ (hs.take S.length)) ?_ ?_ (some ⟨w1.heap.size + 1, 0, none⟩) 1 1 [.slice none 0 0] ?_ rfl (fun ad e => srcE_some e ?_) (fun e => by cases e) hone2 (by unfold maxLen; omega) (by omega) ?_ ?_); (focus (rfl)); (focus ((repeat' (first | with_reducible exact ho5 | with_reducible refine World.ownsRow.drew ?_ | with_reducible refine World.ownsRow.alloc ?_ _)); done)); (focus (rfl)); (focus ((repeat' (first | with_reducible assumption | with_reducible exact rngE_one _ _ (by simp) _ _ | with_reducible refine rngE_drew ?_ | with_reducible refine rngE_alloc ?_ (by (first | omega | (simp <;> omega) | simp)))); done)); (focus (first | omega | (simp <;> omega) | simp)); intro v6 w6 ho6 hg6; refine grownE_step (B := w1.heap.size) (w3 := w1) ?_ hg6 ?_ (own_blk ho5) ?_; (focus ((repeat' (first | with_reducible assumption | (with_reducible refine Below.drew ?_) | (with_reducible refine Below.alloc ?_ ?_ _) | (with_reducible exact Below.refl _ _) | omega | (simp <;> omega))); done)); (focus (first | omega | (simp <;> omega) | simp)); intro hb6 hs6))
              | (((refine step_append_any (by rfl) _ _ 22 (by rfl) w1.heap.size 23 iE (.slice none 0 0) 1 24 Try.underlying22 hi1 hi2 hi3 hi4 rfl (by decide) v5 (0 + S.length) ([] ++ (hs.take S.length)) ?_ ?_ (some ⟨w1.heap.size, 0, none⟩) 1 1 [.slice none 0 0] ?_ rfl (fun ad e => srcE_some e ?_) (fun e => by cases e) hone2 (by unfold maxLen; omega) (by omega) ?_ ?_); (focus (rfl)); (focus ((repeat' (first | with_reducible exact ho5 | with_reducible refine World.ownsRow.drew ?_ | with_reducible refine World.ownsRow.alloc ?_ _)); done)); (focus (rfl)); (focus ((repeat' (first | with_reducible assumption | with_reducible exact rngE_one _ _ (by simp) _ _ | with_reducible refine rngE_drew ?_ | with_reducible refine rngE_alloc ?_ (by (first | omega | (simp <;> omega) | simp)))); done)); (focus (first | omega | (simp <;> omega) | simp)); intro v6 w6 ho6 hg6; refine grownE_step (B := w1.heap.size) (w3 := w1) ?_ hg6 ?_ (own_blk ho5) ?_; (focus ((repeat' (first | with_reducible assumption | (with_reducible refine Below.drew ?_) | (with_reducible refine Below.alloc ?_ ?_ _) | (with_reducible exact Below.refl _ _) | omega | (simp <;> omega))); done)); (focus (first | omega | (simp <;> omega) | simp)); intro hb6 hs6))
              | (((refine step_append_any (by rfl) _ _ 22 (by rfl) w1.heap.size 23 iE (.slice none 0 0) 1 24 Try.underlying22 hi1 hi2 hi3 hi4 rfl (by decide) (.slice (some ⟨w1.heap.size, 0, none⟩) 0 0) 0 [] ?_ ?_ (some ad) S.length S.length (hs.take S.length) ?_ hln1 (hsrc1 _ ?_) (fun e => by cases e) hone1 (by unfold maxLen; omega) (by omega) ?_ ?_); (focus (rfl)); (focus ((repeat' (first | with_reducible refine World.ownsRow.drew ?_ | with_reducible exact ownsE_new _ _ _ (by simp) (by (first | omega | (simp <;> omega) | simp)) _ _ | with_reducible refine World.ownsRow.alloc ?_ _)); done)); (focus (rfl)); (focus ((repeat' (first | with_reducible assumption | (with_reducible refine Below.drew ?_) | (with_reducible refine Below.alloc ?_ ?_ _) | (with_reducible exact Below.refl _ _) | omega | (simp <;> omega))); done)); (focus (first | omega | (simp <;> omega) | simp)); intro v5 w5 ho5 hg5; refine grownE_step (B := w1.heap.size) (w3 := w1) ?_ hg5 ?_ ?_ ?_; (focus ((repeat' (first | with_reducible assumption | (with_reducible refine Below.drew ?_) | (with_reducible refine Below.alloc ?_ ?_ _) | (with_reducible exact Below.refl _ _) | omega | (simp <;> omega))); done)); (focus (first | omega | (simp <;> omega) | simp)); (focus (intro k hk; simp [Value.ownBlock] at hk; omega)); intro hb5 hs5; refine rngE_step (N := w1.heap.size + 1) (cs := [.slice none 0 0]) ?_ hg5 ?_ ?_ ?_; (focus ((repeat' (first | with_reducible assumption | with_reducible exact rngE_one _ _ (by simp) _ _ | with_reducible refine rngE_drew ?_ | with_reducible refine rngE_alloc ?_ (by (first | omega | (simp <;> omega) | simp)))); done)); (focus (first | omega | (simp <;> omega) | simp)); (focus (simp [Value.ownBlock]; done)); intro hr5 hq5))
              | (((refine step_append_any (by rfl) _ _ 22 (by rfl) w1.heap.size 23 iE (.slice none 0 0) 1 24 Try.underlying22 hi1 hi2 hi3 hi4 rfl (by decide) (.slice (some ⟨w1.heap.size + 1, 0, none⟩) 0 0) 0 [] ?_ ?_ (some ad) S.length S.length (hs.take S.length) ?_ hln1 (hsrc1 _ ?_) (fun e => by cases e) hone1 (by unfold maxLen; omega) (by omega) ?_ ?_); (focus (rfl)); (focus ((repeat' (first | with_reducible refine World.ownsRow.drew ?_ | with_reducible exact ownsE_new _ _ _ (by simp) (by (first | omega | (simp <;> omega) | simp)) _ _ | with_reducible refine World.ownsRow.alloc ?_ _)); done)); (focus (rfl)); (focus ((repeat' (first | with_reducible assumption | (with_reducible refine Below.drew ?_) | (with_reducible refine Below.alloc ?_ ?_ _) | (with_reducible exact Below.refl _ _) | omega | (simp <;> omega))); done)); (focus (first | omega | (simp <;> omega) | simp)); intro v5 w5 ho5 hg5; refine grownE_step (B := w1.heap.size) (w3 := w1) ?_ hg5 ?_ ?_ ?_; (focus ((repeat' (first | with_reducible assumption | (with_reducible refine Below.drew ?_) | (with_reducible refine Below.alloc ?_ ?_ _) | (with_reducible exact Below.refl _ _) | omega | (simp <;> omega))); done)); (focus (first | omega | (simp <;> omega) | simp)); (focus (intro k hk; simp [Value.ownBlock] at hk; omega)); intro hb5 hs5; refine rngE_step (N := w1.heap.size) (cs := [.slice none 0 0]) ?_ hg5 ?_ ?_ ?_; (focus ((repeat' (first | with_reducible assumption | with_reducible exact rngE_one _ _ (by simp) _ _ | with_reducible refine rngE_drew ?_ | with_reducible refine rngE_alloc ?_ (by (first | omega | (simp <;> omega) | simp)))); done)); (focus (first | omega | (simp <;> omega) | simp)); (focus (simp [Value.ownBlock]; done)); intro hr5 hq5))
              | (((refine step_append_any (by rfl) _ _ 22 (by rfl) w1.heap.size 23 iE (.slice none 0 0) 1 24 Try.underlying22 hi1 hi2 hi3 hi4 rfl (by decide) (.slice (some ⟨w1.heap.size, 0, none⟩) 0 0) 0 [] ?_ ?_ (some ad) S.length S.length (hs.take S.length) ?_ hln1 (hsrc1 _ ?_) (fun e => by cases e) hone1 (by unfold maxLen; omega) (by omega) ?_ ?_); (focus (rfl)); (focus ((repeat' (first | with_reducible refine World.ownsRow.drew ?_ | with_reducible exact ownsE_new _ _ _ (by simp) (by (first | omega | (simp <;> omega) | simp)) _ _ | with_reducible refine World.ownsRow.alloc ?_ _)); done)); (focus (rfl)); (focus ((repeat' (first | with_reducible assumption | (with_reducible refine Below.drew ?_) | (with_reducible refine Below.alloc ?_ ?_ _) | (with_reducible exact Below.refl _ _) | omega | (simp <;> omega))); done)); (focus (first | omega | (simp <;> omega) | simp)); intro v5 w5 ho5 hg5; refine grownE_step (B := w1.heap.size) (w3 := w1) ?_ hg5 ?_ ?_ ?_; (focus ((repeat' (first | with_reducible assumption | (with_reducible refine Below.drew ?_) | (with_reducible refine Below.alloc ?_ ?_ _) | (with_reducible exact Below.refl _ _) | omega | (simp <;> omega))); done)); (focus (first | omega | (simp <;> omega) | simp)); (focus (intro k hk; simp [Value.ownBlock] at hk; omega)); intro hb5 hs5)))
          all_goals
            obtain ⟨a7, cap7, rfl, hk7⟩ := HFIN.out w7 v7 hb7 (by have e9 : hs.drop S.length = [] := List.drop_eq_nil_iff.2 (by omega); rw [e9]; simpa using ho7)
            have HS7 := Lib.hid (HS1.out.next hb7)
            have HK7 := Lib.hid hk7
            replace HK := Lib.hid (HK.out.below hb7)
            clear hb7 ho7 hk7
            go_wp2_with fail
            refine (L.stack S _ S.length _ HS7.out.env HK.out HSS.out.1 HSS.out.2).mono ?_
            rintro e w8 ⟨a8, cap8, rfl, h8', hb⟩
            have HS8 := Lib.hid (HS7.out.next hb)
            have HE8 := Lib.hid h8'
            replace HK7 := Lib.hid (HK7.out.below hb)
            clear hb h8'
            go_wp2_with fail
            refine (L.stack T a7 cap7 _ HS8.out.env HK7.out HTS.out.1 HTS.out.2).mono ?_
            rintro e w10 ⟨a10, cap10, rfl, h10, hb⟩
            rw [HVV.out] at h10 ⊢
            have HS10 := Lib.hid (HS8.out.next hb)
            have HE10 := Lib.hid h10
            replace HE8 := Lib.hid (RowN.below HE8.out hb)
            clear hb h10
            go_wp2_with fail
            refine (same9 _ _ _ _ _ _ _ HE8.out HE10.out HVL.out).mono ?_
            rintro e w11 ⟨rfl, hb⟩
            have HS11 := Lib.hid (HS10.out.next hb)
            clear hb
            rw [if_pos rfl]
            go_wp2
            go_ret
            exact ⟨by first | rfl | simp, HS11.out.below⟩
        · have hsrc3 : ∀ W', Below w1.heap.size w1 W' → ∀ ad', some (ad.add k) = some ad' → ∀ (j : Nat) u, (hs.drop k)[j]? = some u → W'.cell? (ad'.add j) = some u := fun W' hb ad' e j u hu => by
            cases e
            rw [List.getElem?_drop] at hu
            have h1 := HSRC.out ad rfl (k + j) u hu
            rw [show (ad.add k).add j = ad.add (k + j) by rw [Addr.add_add]]
            exact (hb.cell (World.block_lt_of_cell? w1 _ h1)).trans h1
          go_region_law
            (first
              | (((refine step_append_any (by rfl) _ _ 22 (by rfl) w1.heap.size 23 iE (.slice none 0 0) 1 24 Try.underlying22 hi1 hi2 hi3 hi4 rfl (by decide) v6 (0 + k + 1) ([] ++ (hs.take k) ++ [.slice none 0 0]) ?_ ?_ (some (ad.add k)) (S.length - k) (cap - k) (hs.drop k) ?_ hln3 (hsrc3 _ ?_) (fun e => by cases e) hone3 (by unfold maxLen; omega) (by omega) ?_ ?_); (focus (rfl)); (focus ((repeat' (first | with_reducible exact ho6 | with_reducible refine World.ownsRow.drew ?_ | with_reducible refine World.ownsRow.alloc ?_ _)); done)); (focus (rfl)); (focus ((repeat' (first | with_reducible assumption | (with_reducible refine Below.drew ?_) | (with_reducible refine Below.alloc ?_ ?_ _) | (with_reducible exact Below.refl _ _) | omega | (simp <;> omega))); done)); (focus (first | omega | (simp <;> omega) | simp)); intro v7 w7 ho7 hg7; refine grownE_step (B := w1.heap.size) (w3 := w1) ?_ hg7 ?_ (own_blk ho6) ?_; (focus ((repeat' (first | with_reducible assumption | (with_reducible refine Below.drew ?_) | (with_reducible refine Below.alloc ?_ ?_ _) | (with_reducible exact Below.refl _ _) | omega | (simp <;> omega))); done)); (focus (first | omega | (simp <;> omega) | simp)); intro hb7 hs7))
              | (((refine step_append_any (by rfl) _ _ 22 (by rfl) w1.heap.size 23 iE (.slice none 0 0) 1 24 Try.underlying22 hi1 hi2 hi3 hi4 rfl (by decide) v5 (0 + k) ([] ++ (hs.take k)) ?_ ?_ (some ⟨w5.heap.size, 0, none⟩) 1 1 [.slice none 0 0] ?_ rfl (fun ad e => srcE_some e ?_) (fun e => by cases e) hone2 (by unfold maxLen; omega) (by omega) ?_ ?_); (focus (rfl)); (focus ((repeat' (first | with_reducible exact ho5 | with_reducible refine World.ownsRow.drew ?_ | with_reducible refine World.ownsRow.alloc ?_ _)); done)); (focus (rfl)); (focus ((repeat' (first | with_reducible assumption | with_reducible exact rngE_one _ _ (by simp) _ _ | with_reducible refine rngE_drew ?_ | with_reducible refine rngE_alloc ?_ (by (first | omega | (simp <;> omega) | simp)))); done)); (focus (first | omega | (simp <;> omega) | simp)); intro v6 w6 ho6 hg6; refine grownE_step (B := w1.heap.size) (w3 := w1) ?_ hg6 ?_ (own_blk ho5) ?_; (focus ((repeat' (first | with_reducible assumption | (with_reducible refine Below.drew ?_) | (with_reducible refine Below.alloc ?_ ?_ _) | (with_reducible exact Below.refl _ _) | omega | (simp <;> omega))); done)); (focus (first | omega | (simp <;> omega) | simp)); intro hb6 hs6))
              | (((refine step_append_any (by rfl) _ _ 22 (by rfl) w1.heap.size 23 iE (.slice none 0 0) 1 24 Try.underlying22 hi1 hi2 hi3 hi4 rfl (by decide) v5 (0 + k) ([] ++ (hs.take k)) ?_ ?_ (some ⟨w1.heap.size + 1, 0, none⟩) 1 1 [.slice none 0 0] ?_ rfl (fun ad e => srcE_some e ?_) (fun e => by cases e) hone2 (by unfold maxLen; omega) (by omega) ?_ ?_); (focus (rfl)); (focus ((repeat' (first | with_reducible exact ho5 | with_reducible refine World.ownsRow.drew ?_ | with_reducible refine World.ownsRow.alloc ?_ _)); done)); (focus (rfl)); (focus ((repeat' (first | with_reducible assumption | with_reducible exact rngE_one _ _ (by simp) _ _ | with_reducible refine rngE_drew ?_ | with_reducible refine rngE_alloc ?_ (by (first | omega | (simp <;> omega) | simp)))); done)); (focus (first | omega | (simp <;> omega) | simp)); intro v6 w6 ho6 hg6; refine grownE_step (B := w1.heap.size) (w3 := w1) ?_ hg6 ?_ (own_blk ho5) ?_; (focus ((repeat' (first | with_reducible assumption | (with_reducible refine Below.drew ?_) | (with_reducible refine Below.alloc ?_ ?_ _) | (with_reducible exact Below.refl _ _) | omega | (simp <;> omega))); done)); (focus (first | omega | (simp <;> omega) | simp)); intro hb6 hs6))
              | (((refine step_append_any (by rfl) _ _ 22 (by rfl) w1.heap.size 23 iE (.slice none 0 0) 1 24 Try.underlying22 hi1 hi2 hi3 hi4 rfl (by decide) v5 (0 + k) ([] ++ (hs.take k)) ?_ ?_ (some ⟨w1.heap.size, 0, none⟩) 1 1 [.slice none 0 0] ?_ rfl (fun ad e => srcE_some e ?_) (fun e => by cases e) hone2 (by unfold maxLen; omega) (by omega) ?_ ?_); (focus (rfl)); (focus ((repeat' (first | with_reducible exact ho5 | with_reducible refine World.ownsRow.drew ?_ | with_reducible refine World.ownsRow.alloc ?_ _)); done)); (focus (rfl)); (focus ((repeat' (first | with_reducible assumption | with_reducible exact rngE_one _ _ (by simp) _ _ | with_reducible refine rngE_drew ?_ | with_reducible refine rngE_alloc ?_ (by (first | omega | (simp <;> omega) | simp)))); done)); (focus (first | omega | (simp <;> omega) | simp)); intro v6 w6 ho6 hg6; refine grownE_step (B := w1.heap.size) (w3 := w1) ?_ hg6 ?_ (own_blk ho5) ?_; (focus ((repeat' (first | with_reducible assumption | (with_reducible refine Below.drew ?_) | (with_reducible refine Below.alloc ?_ ?_ _) | (with_reducible exact Below.refl _ _) | omega | (simp <;> omega))); done)); (focus (first | omega | (simp <;> omega) | simp)); intro hb6 hs6))
              | (((refine step_append_any (by rfl) _ _ 22 (by rfl) w1.heap.size 23 iE (.slice none 0 0) 1 24 Try.underlying22 hi1 hi2 hi3 hi4 rfl (by decide) (.slice (some ⟨w1.heap.size, 0, none⟩) 0 0) 0 [] ?_ ?_ (some ad) k cap (hs.take k) ?_ hln1 (hsrc1 _ ?_) (fun e => by cases e) hone1 (by unfold maxLen; omega) (by omega) ?_ ?_); (focus (rfl)); (focus ((repeat' (first | with_reducible refine World.ownsRow.drew ?_ | with_reducible exact ownsE_new _ _ _ (by simp) (by (first | omega | (simp <;> omega) | simp)) _ _ | with_reducible refine World.ownsRow.alloc ?_ _)); done)); (focus (rfl)); (focus ((repeat' (first | with_reducible assumption | (with_reducible refine Below.drew ?_) | (with_reducible refine Below.alloc ?_ ?_ _) | (with_reducible exact Below.refl _ _) | omega | (simp <;> omega))); done)); (focus (first | omega | (simp <;> omega) | simp)); intro v5 w5 ho5 hg5; refine grownE_step (B := w1.heap.size) (w3 := w1) ?_ hg5 ?_ ?_ ?_; (focus ((repeat' (first | with_reducible assumption | (with_reducible refine Below.drew ?_) | (with_reducible refine Below.alloc ?_ ?_ _) | (with_reducible exact Below.refl _ _) | omega | (simp <;> omega))); done)); (focus (first | omega | (simp <;> omega) | simp)); (focus (intro k hk; simp [Value.ownBlock] at hk; omega)); intro hb5 hs5; refine rngE_step (N := w1.heap.size + 1) (cs := [.slice none 0 0]) ?_ hg5 ?_ ?_ ?_; (focus ((repeat' (first | with_reducible assumption | with_reducible exact rngE_one _ _ (by simp) _ _ | with_reducible refine rngE_drew ?_ | with_reducible refine rngE_alloc ?_ (by (first | omega | (simp <;> omega) | simp)))); done)); (focus (first | omega | (simp <;> omega) | simp)); (focus (simp [Value.ownBlock]; done)); intro hr5 hq5))
              | (((refine step_append_any (by rfl) _ _ 22 (by rfl) w1.heap.size 23 iE (.slice none 0 0) 1 24 Try.underlying22 hi1 hi2 hi3 hi4 rfl (by decide) (.slice (some ⟨w1.heap.size + 1, 0, none⟩) 0 0) 0 [] ?_ ?_ (some ad) k cap (hs.take k) ?_ hln1 (hsrc1 _ ?_) (fun e => by cases e) hone1 (by unfold maxLen; omega) (by omega) ?_ ?_); (focus (rfl)); (focus ((repeat' (first | with_reducible refine World.ownsRow.drew ?_ | with_reducible exact ownsE_new _ _ _ (by simp) (by (first | omega | (simp <;> omega) | simp)) _ _ | with_reducible refine World.ownsRow.alloc ?_ _)); done)); (focus (rfl)); (focus ((repeat' (first | with_reducible assumption | (with_reducible refine Below.drew ?_) | (with_reducible refine Below.alloc ?_ ?_ _) | (with_reducible exact Below.refl _ _) | omega | (simp <;> omega))); done)); (focus (first | omega | (simp <;> omega) | simp)); intro v5 w5 ho5 hg5; refine grownE_step (B := w1.heap.size) (w3 := w1) ?_ hg5 ?_ ?_ ?_; (focus ((repeat' (first | with_reducible assumption | (with_reducible refine Below.drew ?_) | (with_reducible refine Below.alloc ?_ ?_ _) | (with_reducible exact Below.refl _ _) | omega | (simp <;> omega))); done)); (focus (first | omega | (simp <;> omega) | simp)); (focus (intro k hk; simp [Value.ownBlock] at hk; omega)); intro hb5 hs5; refine rngE_step (N := w1.heap.size) (cs := [.slice none 0 0]) ?_ hg5 ?_ ?_ ?_; (focus ((repeat' (first | with_reducible assumption | with_reducible exact rngE_one _ _ (by simp) _ _ | with_reducible refine rngE_drew ?_ | with_reducible refine rngE_alloc ?_ (by (first | omega | (simp <;> omega) | simp)))); done)); (focus (first | omega | (simp <;> omega) | simp)); (focus (simp [Value.ownBlock]; done)); intro hr5 hq5))
              | (((refine step_append_any (by rfl) _ _ 22 (by rfl) w1.heap.size 23 iE (.slice none 0 0) 1 24 Try.underlying22 hi1 hi2 hi3 hi4 rfl (by decide) (.slice (some ⟨w1.heap.size, 0, none⟩) 0 0) 0 [] ?_ ?_ (some ad) k cap (hs.take k) ?_ hln1 (hsrc1 _ ?_) (fun e => by cases e) hone1 (by unfold maxLen; omega) (by omega) ?_ ?_); (focus (rfl)); (focus ((repeat' (first | with_reducible refine World.ownsRow.drew ?_ | with_reducible exact ownsE_new _ _ _ (by simp) (by (first | omega | (simp <;> omega) | simp)) _ _ | with_reducible refine World.ownsRow.alloc ?_ _)); done)); (focus (rfl)); (focus ((repeat' (first | with_reducible assumption | (with_reducible refine Below.drew ?_) | (with_reducible refine Below.alloc ?_ ?_ _) | (with_reducible exact Below.refl _ _) | omega | (simp <;> omega))); done)); (focus (first | omega | (simp <;> omega) | simp)); intro v5 w5 ho5 hg5; refine grownE_step (B := w1.heap.size) (w3 := w1) ?_ hg5 ?_ ?_ ?_; (focus ((repeat' (first | with_reducible assumption | (with_reducible refine Below.drew ?_) | (with_reducible refine Below.alloc ?_ ?_ _) | (with_reducible exact Below.refl _ _) | omega | (simp <;> omega))); done)); (focus (first | omega | (simp <;> omega) | simp)); (focus (intro k hk; simp [Value.ownBlock] at hk; omega)); intro hb5 hs5)))
          all_goals
            obtain ⟨a7, cap7, rfl, hk7⟩ := HFIN.out w7 v7 hb7 (by have e9 : 0 + k + 1 + (S.length - k) = S.length + 1 := (by omega); rw [e9] at ho7; simpa using ho7)
            have HS7 := Lib.hid (HS1.out.next hb7)
            have HK7 := Lib.hid hk7
            replace HK := Lib.hid (HK.out.below hb7)
            clear hb7 ho7 hk7
            go_wp2_with fail
            refine (L.stack S _ cap _ HS7.out.env HK.out HSS.out.1 HSS.out.2).mono ?_
            rintro e w8 ⟨a8, cap8, rfl, h8', hb⟩
            have HS8 := Lib.hid (HS7.out.next hb)
            have HE8 := Lib.hid h8'
            replace HK7 := Lib.hid (HK7.out.below hb)
            clear hb h8'
            go_wp2_with fail
            refine (L.stack T a7 cap7 _ HS8.out.env HK7.out HTS.out.1 HTS.out.2).mono ?_
            rintro e w10 ⟨a10, cap10, rfl, h10, hb⟩
            rw [HVV.out] at h10 ⊢
            have HS10 := Lib.hid (HS8.out.next hb)
            have HE10 := Lib.hid h10
            replace HE8 := Lib.hid (RowN.below HE8.out hb)
            clear hb h10
            go_wp2_with fail
            refine (same9 _ _ _ _ _ _ _ HE8.out HE10.out HVL.out).mono ?_
            rintro e w11 ⟨rfl, hb⟩
            have HS11 := Lib.hid (HS10.out.next hb)
            clear hb
            rw [if_pos rfl]
            go_wp2
            go_ret
            exact ⟨by first | rfl | simp, HS11.out.below⟩
  · have hF0 : (if FewOK S then (1 : Int) else 0) = 0 := if_neg hf
    clear hf
    go_enter Try.func7, Try.ntmps7
    go_wp2_with fail
    refine (awake10 L _ HS0.out.env).mono ?_
    rintro e w1 ⟨rfl, hb⟩
    have HS1 := Lib.hid (HS0.out.next hb)
    replace HK := Lib.hid (HK.out.below hb)
    clear hb
    go_wp2_with fail
    refine (few10 S a cap _ HK.out).mono ?_
    rintro e w9 ⟨rfl, rfl⟩
    rw [hF0]
    go_wp2_with fail
    refine (awake10 L _ HS1.out.env).mono ?_
    rintro e w2 ⟨rfl, hb⟩
    have HS2 := Lib.hid (HS1.out.next hb)
    clear hb
    go_wp2
    go_ret
    exact ⟨by first | rfl | simp, HS2.out.below⟩
end Go.Proofs.Ytkannambildnoaa
