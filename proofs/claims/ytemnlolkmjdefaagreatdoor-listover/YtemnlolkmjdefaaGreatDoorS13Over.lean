/-
  The law ListOver walked over Names13: for every stack and text it returns true and changes nothing that was there. Conditions: package list answers as Names13 says; the stack lies in memory; errorType holds error's type.
-/
import Derived.Test.YtemnlolkmjdefaaGreatDoorS13Awake
import Derived.Test.YtemnlolkmjdefaaGreatDoorS12Few
import Derived.Test.YtemnlolkmjdefaaGreatDoorS12RefR
import Derived.Test.YtemnlolkmjdefaaGreatDoorPc
import Derived.Test.YtemnlolkmjdefaaGreatDoorS9Par
import Derived.Test.YtemnlolkmjdefaaGreatDoorS13More
import Derived.Test.YtemnlolkmjdefaaGreatDoorPa
import Derived.BigQuiet
namespace Go.Proofs.YtemnlolkmjdefaaGreatDoor
open Go.RowKit

theorem ok_snoc {S : List (List Ent)} (h : LkOK S) (h8 : S.length ≤ 8) {l : List Ent} (hl : RightL l) : LkOK (([] ++ S) ++ [l]) := by
  refine ⟨by simp; omega, fun x hx => ?_⟩
  rw [List.nil_append] at hx
  rcases List.mem_append.1 hx with hx | hx
  · exact h.2 x hx
  · obtain rfl : x = l := by simpa using hx
    exact hl
theorem sm_snoc {S : List (List Ent)} (h : ∀ l ∈ S, Sm l) {l : List Ent} (hl : Sm l) : ∀ x ∈ ([] ++ S) ++ [l], Sm x := fun x hx => by
  rw [List.nil_append] at hx
  rcases List.mem_append.1 hx with hx | hx
  · exact h x hx
  · obtain rfl : x = l := by simpa using hx
    exact hl
theorem nav_root {S : List (List Ent)} (h : LkOK S) : naV S [47] = (0, (nmsV (stk S) [47]).map bs) := by
  unfold naV drV
  rw [lkV_ok h, atS_root]
  rfl
theorem q_bytes {s q : ByteArray} (hq : (⟨#[47]⟩ : ByteArray) ++ s = q) : q.data.toList = 47 :: s.data.toList := by
  rw [← hq]
  simp
theorem dir_right13 {s q : ByteArray} (hn : nm s.data.toList = true) (hq : (⟨#[47]⟩ : ByteArray) ++ s = q) : RightL [((q, 2, ⟨#[]⟩) : Ent)] := by
  have hb := q_bytes hq
  obtain ⟨c1, c2, c3, _⟩ := cp_parts isP_root hn (by decide)
  have hc : cp13 [47] s.data.toList = 47 :: s.data.toList := (cp_text isP_root _).trans (if_pos rfl)
  rw [hc, ← hb] at c1 c2 c3
  refine ⟨by simp, fun e he => ?_, by unfold Asc; simp, fun e he => ?_⟩
  · obtain rfl : e = _ := by simpa using he
    exact rE_dir c1 c2
  · obtain rfl : e = _ := by simpa using he
    exact .inl c3
theorem nms_more13 {t : List Ent} (ht : TR t) {s q : ByteArray} (hn : nm s.data.toList = true) (hq : (⟨#[47]⟩ : ByteArray) ++ s = q) : nmsV (over t [((q, 2, ⟨#[]⟩) : Ent)]) [47] = moreN (nmsV t [47]) s.data.toList := by
  have hb : q = ⟨(47 :: s.data.toList).toArray⟩ := ba_ext (by rw [q_bytes hq])
  rw [hb]
  exact nms_more ht hn
theorem row_atq {w w' : World} {a : Option Addr} {cap : Nat} {L : List (List UInt8)} (h : Row w a cap (L.map bs)) (hb : Below w.heap.size w w') {k : Nat} {x : List UInt8} (hx : L[k]? = some x) : ∃ b off, a = some ⟨b, off, none⟩ ∧ w'.cell? ⟨b, off + k, none⟩ = some (.string (bs x)) := by
  obtain ⟨h1, h2⟩ := List.getElem?_eq_some_iff.1 hx
  obtain ⟨b, off, e, hc⟩ := Row.at9 h hb (k := k) (by simpa using h1)
  refine ⟨b, off, e, ?_⟩
  rw [List.getElem_map, h2] at hc
  exact hc
theorem owns_below {w w' : World} {B : Nat} {t : TypeId} {v : Value} {n : Nat} {xs : List Value} (h : w.ownsRow B t 1 v n xs) (hb : Below w.heap.size w w') : w'.ownsRow B t 1 v n xs := by
  obtain ⟨hl, h | ⟨g, cap, cur, e, hg, hbk, hc⟩⟩ := h
  · exact ⟨hl, .inl h⟩
  · exact ⟨hl, .inr ⟨g, cap, cur, e, hg, (hb.block g (Array.getElem?_eq_some_iff.1 hbk).1).trans hbk, hc⟩⟩
theorem ents_grown {w w' : World} {row : Option Nat} {M cap : Nat} {l : List Ent} (h : Ents w (some ⟨M, 0, none⟩) cap l) (hg : w.grownBy w' row) (hM : M < w.heap.size) (hr : some M ≠ row) : Ents w' (some ⟨M, 0, none⟩) cap l := by
  obtain ⟨h1, h2⟩ := h
  refine ⟨h1, h2.imp_right ?_⟩
  rintro ⟨b, off, e, hlt, hc⟩
  cases e
  refine ⟨M, 0, rfl, Nat.lt_of_lt_of_le hlt hg.size, fun j x hx => ?_⟩
  intro i v hv
  rw [World.cell?_of_block (w := w) (hg.block M hM hr)]
  exact hc j x hx i v hv
theorem hd_one {w : World} {a : Option Addr} {cap : Nat} {l : List Ent} (h : Ents w a cap l) : HdOf w [l] [.slice a l.length cap] := ⟨rfl, fun j u hu => by
  obtain ⟨rfl, rfl⟩ : j = 0 ∧ Value.slice a l.length cap = u := by
    cases j with
    | zero => exact ⟨rfl, by simpa using hu⟩
    | succ j => simp at hu
  exact ⟨l, a, cap, rfl, rfl, h⟩⟩
/-- Layers at the end of a stack that a call made itself, whose layers lie in Wc. -/
theorem wl_catB {w : World} {ops : Array Oper} {rest : List Oper} {o : Oper} {a : Act} {Q : Exit → Act → World → Prop} (hgd : o.guard = none) (s x : Operand)
    (ho : o.op = .call { callee := .builtin .append, args := #[s, x], argTypes := #[22, 22] }) (B : Nat) (Wc : World) (v : Value) (T S : List (List Ent)) (hsT : List Value) (hs : a.eval s = v) (hown : w.ownsRow B 38 1 v T.length hsT) (hT : HdOf Wc T hsT) (hB : B ≤ w.heap.size)
    (aS : Option Addr) (c : Nat) (hx : a.eval x = .slice aS S.length c) (hdS : List Value) (hS : SrcS Wc w aS S hdS) (hl : T.length + S.length ≤ 1000)
    (h : ∀ v' w', w'.ownsRow B 38 1 v' (T ++ S).length (hsT ++ hdS) → HdOf Wc (T ++ S) (hsT ++ hdS) → w.grownBy w' v.ownBlock → wpList Tryz.prog ops Q rest (a.put o.dst v') w') : wpList Tryz.prog ops Q (o :: rest) a w := by
  obtain ⟨iE, hi1, hi2, hi3, hi4⟩ := info_parts infoEnsR
  refine wl_append_any hgd s x 22 ho B 38 iE _ 1 24 Tryz.underlying22 hi1 hi2 hi3 hi4 rfl (by decide) v T.length _ hs hown aS S.length c hdS hx (by rw [hS.hd.1]; omega) hS.src hS.none hS.hd.one (by unfold maxLen; omega) (by omega) hB ?_
  intro v' w' h1 h2
  exact h v' w' (by rw [List.length_append]; exact h1) (hT.app hS.hd) h2
set_option maxRecDepth 10000 in
set_option maxHeartbeats 8000000 in
theorem lawOver13 (LN : Names13) (S : List (List Ent)) (s : ByteArray) (a : Option Addr) (cap : Nat) (W : World) (hg : EtLaid W) (hk : Stk W a cap S) : Calls Tryz.prog 8 #[.slice a S.length cap, .string s] W fun e w' => e = .returned (.bool true) ∧ Below W.heap.size W w' := by
  have HS0 := Lib.hid (st_self hg)
  have HK := Lib.hid hk
  clear hg hk
  by_cases hf : FewOK S
  · have hF1 : (if FewOK S then (1 : Int) else 0) = 1 := if_pos hf
    have HFW := Lib.hid hf
    have HSS := Lib.hid (few_sm12 hf)
    clear hf
    by_cases hs : (20 : Int) < (s.size : Int)
    · go_enter Tryz.func8, Tryz.ntmps8
      go_wp2_with fail
      refine (awake13 LN _ HS0.out.et).mono ?_
      rintro e w1 ⟨rfl, hb⟩
      have HS1 := Lib.hid (HS0.out.next hb)
      replace HK := Lib.hid (HK.out.below hb)
      clear hb
      go_wp2_with fail
      refine (few10 S a cap _ HK.out).mono ?_
      rintro e w9 ⟨rfl, rfl⟩
      rw [hF1]
      go_wp2_with fail
      refine (awake13 LN _ HS1.out.et).mono ?_
      rintro e w2 ⟨rfl, hb⟩
      have HS2 := Lib.hid (HS1.out.next hb)
      replace HK := Lib.hid (HK.out.below hb)
      clear hb
      go_wp2
      go_ret
      exact ⟨by first | rfl | simp, HS2.out.below⟩
    · have HP := Lib.hid (show s.size ≤ 20 by omega)
      by_cases h8 : (8 : Int) < (S.length : Int)
      · have g8 : (8 : Int) < (S.length : Int) := h8
        go_enter Tryz.func8, Tryz.ntmps8
        go_wp2_with fail
        refine (awake13 LN _ HS0.out.et).mono ?_
        rintro e w1 ⟨rfl, hb⟩
        have HS1 := Lib.hid (HS0.out.next hb)
        replace HK := Lib.hid (HK.out.below hb)
        clear hb
        go_wp2_with fail
        refine (few10 S a cap _ HK.out).mono ?_
        rintro e w9 ⟨rfl, rfl⟩
        rw [hF1]
        go_wp2_with fail
        refine (awake13 LN _ HS1.out.et).mono ?_
        rintro e w2 ⟨rfl, hb⟩
        have HS2 := Lib.hid (HS1.out.next hb)
        replace HK := Lib.hid (HK.out.below hb)
        clear hb
        go_wp2
        go_ret
        exact ⟨by first | rfl | simp, HS2.out.below⟩
      · have HS8 := Lib.hid (show S.length ≤ 8 by omega)
        have HRR := Lib.hid (fun W h => refRight12 S a cap W h HSS.out.1 HSS.out.2)
        have HNA := Lib.hid (fun W => name_any s W)
        have z1 : ¬ 9223372036854775807 < 1 + s.size := by have := HP.out; omega
        by_cases hnm : nm s.data.toList = true
        · rw [hnm] at HNA
          by_cases hok : LkOK S
          · rw [decide_eq_true (show S.length ≤ 9 ∧ ∀ l ∈ S, RightL l from hok)] at HRR
            obtain ⟨q, hq⟩ : ∃ q, (⟨#[47]⟩ : ByteArray) ++ s = q := ⟨_, rfl⟩
            have hasc := nms_asc (tr_stk hok.2) [47]
            have hnv : naV S [47] = (0, (nmsV (stk S) [47]).map bs) := nav_root hok
            have hnv2 : naV (([] ++ S) ++ [[((q, 2, ⟨#[]⟩) : Ent)]]) [47] = (0, (moreN (nmsV (stk S) [47]) s.data.toList).map bs) := by
              rw [nav_root (ok_snoc hok HS8.out (dir_right13 hnm hq)), List.nil_append, stk_snoc]
              exact congrArg (fun l => ((0 : Int), l.map bs)) (nms_more13 (tr_stk hok.2) hnm hq)
            have HQS := Lib.hid (show q.size ≤ 21 by rw [← hq, ByteArray.size_append]; have := HP.out; show 1 + s.size ≤ 21; omega)
            have HRE := Lib.hid (dir_right13 hnm hq)
            have HAL := Lib.hid (show (nmsV (stk S) [47]).length ≤ 576 by
              have h1 := nmB_len (stk S) [47]
              have h2 := stk_len hok.2
              have h3 := hok.1
              unfold nmB at h1
              rw [List.length_map] at h1
              omega)
            obtain ⟨A, hA⟩ : ∃ A, nmsV (stk S) [47] = A := ⟨_, rfl⟩
            rw [hA] at hasc hnv hnv2 HAL
            obtain ⟨B, hB⟩ : ∃ B, moreN A s.data.toList = B := ⟨_, rfl⟩
            have HST := Lib.hid (fun i (hi : i < B.length) => met_step (n := s.data.toList) hasc (i := i) (by rw [hB]; exact hi))
            have HEND := Lib.hid (metN_end (n := s.data.toList) hasc)
            have HLEN := Lib.hid (more_len (A := A) (n := s.data.toList))
            have HZE := Lib.hid (metN_zero A s.data.toList)
            have HBL := Lib.hid (show B.length ≤ 577 by
              have := HAL.out
              by_cases h9 : s.data.toList ∈ A
              · rw [← hB, moreN_in hasc h9]; omega
              · rw [← hB, more_out_len hasc h9]; omega)
            rw [hB] at hnv2 HEND HLEN
            simp only [hB] at HST
            have HNM : Hid (∀ w, EtLaid w → Stk w a cap S → Calls Tryz.prog 11 #[.slice a S.length cap, .string ⟨#[47]⟩] w fun e w' => ∃ a' cap' er, e = .returned (.tuple #[.slice a' A.length cap', er]) ∧ Row w' a' cap' (A.map bs) ∧ Er w' 0 er ∧ Below w.heap.size w w') := fun w h1 h2 => by
              have := LN S a cap ⟨#[47]⟩ w h1 h2 HSS.out.1 HSS.out.2 (by decide)
              rw [show (⟨#[47]⟩ : ByteArray).data.toList = [47] from rfl, hnv] at this
              simp only [List.length_map] at this
              exact this
            have HLT := Lib.hid (show (([] ++ S) ++ [[((q, 2, ⟨#[]⟩) : Ent)]]).length = S.length + 1 by simp)
            have HNM2 : Hid (∀ w a' c', EtLaid w → Stk w a' c' (([] ++ S) ++ [[((q, 2, ⟨#[]⟩) : Ent)]]) → Calls Tryz.prog 11 #[.slice a' (S.length + 1) c', .string ⟨#[47]⟩] w fun e w' => ∃ a' cap' er, e = .returned (.tuple #[.slice a' B.length cap', er]) ∧ Row w' a' cap' (B.map bs) ∧ Er w' 0 er ∧ Below w.heap.size w w') := fun w a' c' h1 h2 => by
              have := LN _ a' c' ⟨#[47]⟩ w h1 h2 (by rw [HLT.out]; have := HS8.out; omega) (sm_snoc HSS.out.2 (sm_right HRE.out)) (by decide)
              rw [show (⟨#[47]⟩ : ByteArray).data.toList = [47] from rfl, hnv2, HLT.out] at this
              simp only [List.length_map] at this
              exact this
            clear hnv hnv2 hasc hok hA hB hnm
            go_enter Tryz.func8, Tryz.ntmps8
            go_wp2_with fail
            refine (awake13 LN _ HS0.out.et).mono ?_
            rintro e w1 ⟨rfl, hb⟩
            have HS1 := Lib.hid (HS0.out.next hb)
            replace HK := Lib.hid (HK.out.below hb)
            clear hb
            go_wp2_with fail
            refine (few10 S a cap _ HK.out).mono ?_
            rintro e w9 ⟨rfl, rfl⟩
            rw [hF1]
            go_wp2_with fail
            refine (HNA.out _).mono ?_
            rintro e w2 ⟨rfl, hb⟩
            have HS2 := Lib.hid (HS1.out.next hb)
            replace HK := Lib.hid (HK.out.below hb)
            clear hb
            go_wp2_with fail
            refine (HRR.out _ HK.out).mono ?_
            rintro e w3 ⟨rfl, hb⟩
            have HS3 := Lib.hid (HS2.out.next hb)
            replace HK := Lib.hid (HK.out.below hb)
            clear hb
            go_wp2_with fail
            refine (HNM.out _ HS3.out.et HK.out).mono ?_
            rintro e w4 ⟨a1, c1, er1, rfl, h9, e9, hb⟩
            have HA := Lib.hid h9
            have HE1 := Lib.hid e9
            clear h9 e9
            have HS4 := Lib.hid (HS3.out.next hb)
            replace HK := Lib.hid (HK.out.below hb)
            clear hb
            have hbz : Below w4.heap.size w4 (w4.alloc (.cells #[] 38)) := (Below.refl _ _).alloc (Nat.le_refl _) _
            obtain ⟨hsS, HSR⟩ := src_old HK.out hbz
            go_wp2_with (at_builtin; refine Stopped.go ?_)
            unfold Stopped
            refine wl_catB (by rfl) _ _ (by rfl) w4.heap.size w4 _ [] S [] (by rfl) (ownsE_new w4 w4.heap.size w4.heap.size rfl (Nat.le_refl _) 38 1) ⟨rfl, by simp⟩ hbz.size a cap (by rfl) hsS HSR (by have := HSS.out.1; simp; omega) ?_
            intro va wa hoa hda hga
            have HBA := Lib.hid (hbz.grown hga hbz.size fun k hk => by
              obtain rfl : w4.heap.size = k := by simpa [Value.ownBlock] using hk
              exact Nat.le_refl _)
            have HOA := Lib.hid hoa
            have HDA := Lib.hid hda
            clear hbz HSR hoa hga hda
            obtain ⟨We, hWe⟩ : ∃ W, wa.alloc (.cells #[.string q, .int .i64 2, .string ⟨#[]⟩] 41) = W := ⟨_, rfl⟩
            obtain ⟨M, hM⟩ : ∃ M, wa.heap.size = M := ⟨_, rfl⟩
            have hbe : Below wa.heap.size wa We := by rw [← hWe]; exact (Below.refl _ _).alloc (Nat.le_refl _) _
            have hEe := ents_block (cap := 1) (heap_alloc_new wa (.cells #[.string q, .int .i64 2, .string ⟨#[]⟩] 41)) (show _ = [((q, 2, ⟨#[]⟩) : Ent)].flatMap enc from rfl) (by simp)
            rw [hWe, hM] at hEe
            have HEe := Lib.hid hEe
            have HBE := Lib.hid hbe
            have HMW := Lib.hid (show wa.heap.size = M ∧ M < We.heap.size by rw [← hWe, ← hM]; simp)
            clear hEe hbe
            go_wp2_with (at_builtin; refine Stopped.go ?_)
            unfold Stopped
            have hbh : Below We.heap.size We (We.alloc (.cells #[.slice (some ⟨M, 0, none⟩) 1 1] 38)) := (Below.refl _ _).alloc (Nat.le_refl _) _
            have hblk := HOA.out.lt
            refine wl_catB (by rfl) _ _ (by rfl) w4.heap.size We _ ([] ++ S) [[((q, 2, ⟨#[]⟩) : Ent)]] ([] ++ hsS) (by rfl) (owns_below (owns_below HOA.out HBE.out) hbh) (HDA.out.below (HBA.out.trans (HBE.out.mono HBA.out.size))) (Nat.le_trans HBA.out.size (Nat.le_trans HBE.out.size hbh.size)) (some ⟨We.heap.size, 0, none⟩) 1 (by rfl) _ (src_one HEe.out (by simp)) (by have := HSS.out.1; simp; omega) ?_
            intro vb w5 hob hdb hgb
            have hb : Below w4.heap.size w4 w5 := (HBA.out.trans ((HBE.out.trans (hbh.mono HBE.out.size)).mono HBA.out.size)).grown hgb (Nat.le_trans HBA.out.size (Nat.le_trans HBE.out.size hbh.size)) fun k hk => (hblk k hk).1
            have hEb : Ents w5 (some ⟨M, 0, none⟩) 1 [((q, 2, ⟨#[]⟩) : Ent)] := ents_grown (RowN.below HEe.out hbh) hgb (by have := HMW.out; have := hbh.size; omega) fun h => by
              have h1 := (hblk M h.symm).2
              have h2 := HMW.out.1
              omega
            obtain ⟨a9, c9, rfl, hk9⟩ := own_stk hob ((HDA.out.below hb).app (hd_one hEb)).2
            have HT := Lib.hid hk9
            clear hbh hob hdb hgb hEb hk9 hblk HOA HDA HEe HBA HBE HMW hM hWe
            rw [HLT.out]
            have HS5 := Lib.hid (HS4.out.next hb)
            replace HK := Lib.hid (HK.out.below hb)
            replace HA := Lib.hid (HA.out.below hb)
            replace HE1 := Lib.hid (HE1.out.below hb)
            clear hb
            go_wp2_with fail
            refine (HNM2.out _ _ _ HS5.out.et HT.out).mono ?_
            rintro e w6 ⟨a2, c2, er2, rfl, h9, e9, hb⟩
            have HC := Lib.hid h9
            have HE2 := Lib.hid e9
            clear h9 e9
            have HS6 := Lib.hid (HS5.out.next hb)
            replace HK := Lib.hid (HK.out.below hb)
            replace HA := Lib.hid (HA.out.below hb)
            replace HE1 := Lib.hid (HE1.out.below hb)
            replace HT := Lib.hid (HT.out.below hb)
            clear hb
            have hz0 : (0 : Int) = (metN A s.data.toList 0 : Nat) := by rw [HZE.out]; rfl
            go_wp2
            go_loopg [9, 10, 11] B.length (fun g u v j wx => ∃ k : Nat, u = .int .i64 (metN A s.data.toList k : Nat) ∧ v = .bool (decide (befN A s.data.toList < k)) ∧ j = .int .i64 (k : Int) ∧ k + g = B.length ∧ Hid (Below w6.heap.size w6 wx))
            case atStart => exact ⟨0, by rw [HZE.out]; rfl, by simp, rfl, by omega, Below.refl _ _⟩
            case round =>
              obtain ⟨k, rfl, rfl, rfl, hk, HBX⟩ := hrel
              have hw : IntKind.i64.wrap ((k : Int) + 1) = (k : Int) + 1 := IntWalk.i64_in _ (by have := HBL.out; omega)
              by_cases hlt : k < B.length
              · have hlt' : (k : Int) < (B.length : Int) := by omega
                have hd9 : decide ((k : Int) < (B.length : Int)) = true := decide_eq_true hlt'
                have hbl := HBL.out
                rcases HST.out k hlt with ⟨x, hx1, hx2, hx3, hx4⟩ | ⟨hx1, hx2, hx3, hx4⟩
                · obtain ⟨b1, o1, rfl, hc1⟩ := row_atq HA.out HBX.out hx1
                  obtain ⟨b2, o2, rfl, hc2⟩ := row_atq HC.out HBX.out hx2
                  have hka : metN A s.data.toList k < A.length := (List.getElem?_eq_some_iff.1 hx1).1
                  have hal := HAL.out
                  obtain ⟨z, hz⟩ : ∃ z, metN A s.data.toList k = z := ⟨_, rfl⟩
                  rw [hz] at hc1 hka hx3
                  have hka' : (z : Int) < (A.length : Int) := by omega
                  have hdk : decide ((z : Int) < (A.length : Int)) = true := decide_eq_true hka'
                  have hwz : IntKind.i64.wrap ((z : Int) + 1) = (z : Int) + 1 := IntWalk.i64_in _ (by omega)
                  obtain ⟨y, hy⟩ : ∃ y, bs x = y := ⟨_, rfl⟩
                  have hxy : x = s.data.toList ↔ (y.toList == s.toList) = true := by rw [← hy, Lib.toList_data, Lib.toList_data, bs_list, beq_iff_eq]
                  rw [hy] at hc1 hc2
                  have hyy : (y.toList == y.toList) = true := beq_iff_eq.2 rfl
                  rw [hz]
                  have HX3 := Lib.hid hx3
                  clear hx1 hx2 hy hx3
                  by_cases hbf : befN A s.data.toList < k
                  · have gb : decide (befN A s.data.toList < k) = true := decide_eq_true hbf
                    have GB := Lib.hid (show decide (befN A s.data.toList < k + 1) = true from decide_eq_true (by omega))
                    rw [gb]
                    clear hx4 hxy hbf gb hz
                    go_wp2
                    go_quiet (fail)
                    go_wp2
                    go_roundg (gk - 1)
                    case measure => omega
                    case rel => exact ⟨k + 1, by rw [HX3.out]; simp, by rw [GB.out], by simp, by omega, below_drewX HBX.out _⟩
                  · have gb : decide (befN A s.data.toList < k) = false := decide_eq_false hbf
                    have hx5 := hx4.resolve_left hbf
                    rw [gb]
                    by_cases hke : k = befN A s.data.toList
                    · have GB := Lib.hid (show decide (befN A s.data.toList < k + 1) = true from decide_eq_true (by omega))
                      have gy : (y.toList == s.toList) = true := hxy.1 (hx5.2 hke)
                      clear hx4 hx5 hxy hbf gb hz hke
                      go_wp2
                      go_quiet (fail)
                      go_wp2
                      go_roundg (gk - 1)
                      case measure => omega
                      case rel => exact ⟨k + 1, by rw [HX3.out]; simp, by rw [GB.out], by simp, by omega, below_drewX HBX.out _⟩
                    · have GB := Lib.hid (show decide (befN A s.data.toList < k + 1) = false from decide_eq_false (by omega))
                      have gy : (y.toList == s.toList) = false := by
                        cases hg : (y.toList == s.toList) with
                        | false => rfl
                        | true => exact absurd (hx5.1 (hxy.2 hg)) hke
                      clear hx4 hx5 hxy hbf gb hz hke
                      go_wp2
                      go_quiet (fail)
                      go_wp2
                      go_roundg (gk - 1)
                      case measure => omega
                      case rel => exact ⟨k + 1, by rw [HX3.out]; simp, by rw [GB.out], by simp, by omega, below_drewX HBX.out _⟩
                · obtain ⟨b2, o2, rfl, hc2⟩ := row_atq HC.out HBX.out hx2
                  have gb : decide (befN A s.data.toList < k) = false := decide_eq_false (by omega)
                  have GB := Lib.hid (show decide (befN A s.data.toList < k + 1) = true from decide_eq_true (by omega))
                  obtain ⟨y, hy⟩ : ∃ y, bs s.data.toList = y := ⟨_, rfl⟩
                  have gy : (y.toList == s.toList) = true := by rw [← hy, Lib.toList_data, Lib.toList_data, bs_list, beq_iff_eq]
                  have HYS := Lib.hid (show y.toList = s.toList from beq_iff_eq.1 gy)
                  have gy2 : (y.toList != s.toList) = false := by rw [bne, gy]; rfl
                  rw [hy] at hc2
                  rw [gb]
                  have HX4 := Lib.hid hx4
                  obtain ⟨z, hz⟩ : ∃ z, metN A s.data.toList k = z := ⟨_, rfl⟩
                  rw [hz] at hx3 HX4 ⊢
                  have hal := HAL.out
                  by_cases hka : z < A.length
                  · have hx6 := List.getElem?_eq_getElem hka
                    obtain ⟨x, hx⟩ : ∃ x, A[z] = x := ⟨_, rfl⟩
                    rw [hx] at hx6
                    obtain ⟨b1, o1, rfl, hc1⟩ := row_atq HA.out HBX.out hx6
                    have hka' : (z : Int) < (A.length : Int) := by omega
                    have hdk : decide ((z : Int) < (A.length : Int)) = true := decide_eq_true hka'
                    obtain ⟨u, hu⟩ : ∃ u, bs x = u := ⟨_, rfl⟩
                    have guy : (u.toList == y.toList) = false := by
                      rw [beq_eq_false_iff_ne]
                      intro e
                      rw [HYS.out, ← hu, Lib.toList_data, Lib.toList_data, bs_list] at e
                      exact hx3 (by rw [hx6, e])
                    rw [hu] at hc1
                    clear hx1 hx2 hx3 hx4 hy gb hz hx6 hu hx
                    go_wp2
                    go_quiet (fail)
                    go_wp2
                    go_roundg (gk - 1)
                    case measure => omega
                    case rel => exact ⟨k + 1, by rw [HX4.out], by rw [GB.out], by simp, by omega, below_drewX HBX.out _⟩
                  · have hka' : ¬ (z : Int) < (A.length : Int) := by omega
                    have hdk : decide ((z : Int) < (A.length : Int)) = false := decide_eq_false hka'
                    clear hx1 hx2 hx3 hx4 hy gb hz
                    go_wp2
                    go_quiet (fail)
                    go_wp2
                    go_roundg (gk - 1)
                    case measure => omega
                    case rel => exact ⟨k + 1, by rw [HX4.out], by rw [GB.out], by simp, by omega, below_drewX HBX.out _⟩
              · have hlt' : ¬ (k : Int) < (B.length : Int) := by omega
                have hd9 : decide ((k : Int) < (B.length : Int)) = false := decide_eq_false hlt'
                obtain rfl : k = B.length := by omega
                have hba : ((metN A s.data.toList B.length : Nat) : Int) = (A.length : Int) := by rw [HEND.out]
                have gb : decide (befN A s.data.toList < B.length) = true := decide_eq_true HLEN.out
                rw [hba, gb]
                clear hba gb
                have HSX := Lib.hid (HS6.out.next HBX.out)
                have HE1X := Lib.hid (HE1.out.below HBX.out)
                have HE2X := Lib.hid (HE2.out.below HBX.out)
                go_wp2_with fail
                refine (code_er _ _ _ HE1X.out HSX.out.et).mono ?_
                rintro e w98 ⟨rfl, hb⟩
                have HSY := Lib.hid (HSX.out.next hb)
                replace HE2X := Lib.hid (HE2X.out.below hb)
                clear hb
                go_wp2_with fail
                refine (code_er _ _ _ HE2X.out HSY.out.et).mono ?_
                rintro e w99 ⟨rfl, hb⟩
                have HSZ := Lib.hid (HSY.out.next hb)
                clear hb
                go_wp2
                go_ret
                exact ⟨by first | rfl | simp, HSZ.out.below⟩
          · rw [decide_eq_false (show ¬ (S.length ≤ 9 ∧ ∀ l ∈ S, RightL l) from hok)] at HRR
            clear hok
            go_enter Tryz.func8, Tryz.ntmps8
            go_wp2_with fail
            refine (awake13 LN _ HS0.out.et).mono ?_
            rintro e w1 ⟨rfl, hb⟩
            have HS1 := Lib.hid (HS0.out.next hb)
            replace HK := Lib.hid (HK.out.below hb)
            clear hb
            go_wp2_with fail
            refine (few10 S a cap _ HK.out).mono ?_
            rintro e w9 ⟨rfl, rfl⟩
            rw [hF1]
            go_wp2_with fail
            refine (HNA.out _).mono ?_
            rintro e w2 ⟨rfl, hb⟩
            have HS2 := Lib.hid (HS1.out.next hb)
            replace HK := Lib.hid (HK.out.below hb)
            clear hb
            go_wp2_with fail
            refine (HRR.out _ HK.out).mono ?_
            rintro e w3 ⟨rfl, hb⟩
            have HS3 := Lib.hid (HS2.out.next hb)
            replace HK := Lib.hid (HK.out.below hb)
            clear hb
            go_wp2_with fail
            refine (awake13 LN _ HS3.out.et).mono ?_
            rintro e w4 ⟨rfl, hb⟩
            have HS4 := Lib.hid (HS3.out.next hb)
            replace HK := Lib.hid (HK.out.below hb)
            clear hb
            go_wp2
            go_ret
            exact ⟨by first | rfl | simp, HS4.out.below⟩
        · rw [show nm s.data.toList = false by simpa using hnm] at HNA
          clear hnm
          go_enter Tryz.func8, Tryz.ntmps8
          go_wp2_with fail
          refine (awake13 LN _ HS0.out.et).mono ?_
          rintro e w1 ⟨rfl, hb⟩
          have HS1 := Lib.hid (HS0.out.next hb)
          replace HK := Lib.hid (HK.out.below hb)
          clear hb
          go_wp2_with fail
          refine (few10 S a cap _ HK.out).mono ?_
          rintro e w9 ⟨rfl, rfl⟩
          rw [hF1]
          go_wp2_with fail
          refine (HNA.out _).mono ?_
          rintro e w2 ⟨rfl, hb⟩
          have HS2 := Lib.hid (HS1.out.next hb)
          replace HK := Lib.hid (HK.out.below hb)
          clear hb
          go_wp2_with fail
          refine (awake13 LN _ HS2.out.et).mono ?_
          rintro e w3 ⟨rfl, hb⟩
          have HS3 := Lib.hid (HS2.out.next hb)
          replace HK := Lib.hid (HK.out.below hb)
          clear hb
          go_wp2
          go_ret
          exact ⟨by first | rfl | simp, HS3.out.below⟩
  · have hF1 : (if FewOK S then (1 : Int) else 0) = 0 := if_neg hf
    clear hf
    go_enter Tryz.func8, Tryz.ntmps8
    go_wp2_with fail
    refine (awake13 LN _ HS0.out.et).mono ?_
    rintro e w1 ⟨rfl, hb⟩
    have HS1 := Lib.hid (HS0.out.next hb)
    replace HK := Lib.hid (HK.out.below hb)
    clear hb
    go_wp2_with fail
    refine (few10 S a cap _ HK.out).mono ?_
    rintro e w9 ⟨rfl, rfl⟩
    rw [hF1]
    go_wp2_with fail
    refine (awake13 LN _ HS1.out.et).mono ?_
    rintro e w2 ⟨rfl, hb⟩
    have HS2 := Lib.hid (HS1.out.next hb)
    replace HK := Lib.hid (HK.out.below hb)
    clear hb
    go_wp2
    go_ret
    exact ⟨by first | rfl | simp, HS2.out.below⟩
end Go.Proofs.YtemnlolkmjdefaaGreatDoor
