/-
  A stack of right layers merged down to one layer at the bottom, layer by layer, is what it shows; a file that is read of what it shows lies there when it is looked at: by lists. No condition.
  Small facts for the walks of layer 12's laws. No condition.
  The law WholeStack walked over what packages layer, fold, merge, look, tree and list answer (Right15, Stack15, Two15, Look12, Read11, Walk13): for every stack and text it returns true and changes nothing that was there. Conditions: they answer so; the stack lies in memory; errorType holds error's type.
-/
import Derived.Test.YtlncdmdffpaojaaGreatDoorPd
import Derived.Test.YtlncdmdffpaojaaGreatDoorPb
import Derived.Test.YtlncdmdffpaojaaGreatDoorS10Few
import Derived.Test.YtlncdmdffpaojaaGreatDoorPn
import Derived.Test.YtlncdmdffpaojaaGreatDoorPl
import Derived.Test.YtlncdmdffpaojaaGreatDoorPf
import Derived.Test.YtlncdmdffpaojaaGreatDoorPc
import Derived.Deep.LoopGhost
namespace Go.Proofs.YtlncdmdffpaojaaGreatDoor
open Go.RowKit

/-- All layers' entries. -/
def totW (S : List (List Ent)) : Nat := S.foldl (fun n l => n + l.length) 0
theorem totW_snoc (S : List (List Ent)) (l : List Ent) : totW (S ++ [l]) = totW S + l.length := by unfold totW; rw [List.foldl_append]; rfl
theorem totW_take {S : List (List Ent)} {j : Nat} {l : List Ent} (h : S[j]? = some l) : totW (S.take (j + 1)) = totW (S.take j) + l.length := by
  rw [List.take_add_one, h]
  exact totW_snoc _ _
theorem totW_le (S : List (List Ent)) : ∀ n, totW (S.take n) ≤ totW S := by
  have key : ∀ (T : List (List Ent)) (n m : Nat), n ≤ m → T.foldl (fun n l => n + l.length) n ≤ T.foldl (fun n l => n + l.length) m := by
    intro T
    induction T with
    | nil => intro n m h; exact h
    | cons l r ih => intro n m h; exact ih (n + l.length) (m + l.length) (by omega)
  have grow : ∀ (T : List (List Ent)) (n : Nat), n ≤ T.foldl (fun n l => n + l.length) n := by
    intro T
    induction T with
    | nil => intro n; exact Nat.le_refl _
    | cons l r ih => intro n; exact Nat.le_trans (Nat.le_add_right n l.length) (ih (n + l.length))
  intro n
  unfold totW
  conv => rhs; rw [← List.take_append_drop n S, List.foldl_append]
  exact grow _ _
theorem stk_tot (S : List (List Ent)) : (stk S).length ≤ totW S := by
  have key : ∀ (T : List (List Ent)) (t : List Ent) (n : Nat), t.length ≤ n → (T.foldl over t).length ≤ T.foldl (fun n l => n + l.length) n := by
    intro T
    induction T with
    | nil => intro t n h; exact h
    | cons l r ih => intro t n h; exact ih (over t l) (n + l.length) (Nat.le_trans (over_len l t) (by omega))
  exact key S [] 0 (Nat.le_refl _)
/-- One layer more, at the bottom. -/
theorem down15 {t l : List Ent} (ht : TR t) (hl : RL l) : two15 t l true = over t l := by
  unfold two15
  rw [if_pos rfl, bot_over (rl_mrg ht.1 l.length l rfl hl), over_mrg List.Pairwise.nil ht.1.1 ht.1.2.1 hl.1, over_nil ht]
theorem down_step {S : List (List Ent)} (hS : ∀ l ∈ S, RightL l) (hn : totW S ≤ 64) {j : Nat} {l : List Ent} (h : S[j]? = some l) : twV (stk (S.take j)) l true = (0, stk (S.take (j + 1))) := by
  have hl := hS l (List.mem_of_getElem? h)
  have hT : ∀ m ∈ S.take j, RightL m := fun m hm => hS m (List.mem_of_mem_take hm)
  have ht := tr_stk hT
  have e : S.take (j + 1) = S.take j ++ [l] := by rw [List.take_add_one, h]; rfl
  have h2 : two15 (stk (S.take j)) l true = stk (S.take (j + 1)) := by rw [e, stk_snoc]; exact down15 ht hl.2
  have n1 := stk_tot (S.take j)
  have n2 := stk_tot (S.take (j + 1))
  have n3 := totW_le S j
  have n4 := totW_le S (j + 1)
  rw [tw_ok ⟨by omega, ht.1⟩ hl (by rw [h2]; omega), h2]
/-- What is read is what is looked at. -/
theorem read_look {S : List (List Ent)} (hS : LkOK S) {p : List UInt8} (h : (rdV (stk S) p).1 = 0) : (lkV S p).1 = 0 ∧ (lkV S p).2.1.2.2 = (rdV (stk S) p).2 := by
  have ht := tr_stk hS.2
  unfold rdV kdV at h
  by_cases hp : isP p
  · rw [if_neg (not_not_intro hp)] at h
    by_cases hr : p = [47]
    · rw [if_pos hr] at h
      have h9 : (5 : Int) = 0 := h
      omega
    · rw [if_neg hr] at h
      cases hf : fnd (stk S) p with
      | none =>
        rw [hf] at h
        have h9 : (3 : Int) = 0 := h
        omega
      | some e =>
        obtain ⟨e1, e2⟩ := (fnd_some ht.1.2.1).1 hf
        obtain ⟨l1, l2, _⟩ := look_all hS.2 p hp
        have hv := atV_mem ht p hp e e1 e2
        have hrd : (rdV (stk S) p).2 = e.2.2 := by
          rw [hf] at h
          unfold rdV kdV datV
          rw [if_neg (not_not_intro hp), if_neg hr, hf]
          by_cases hk : e.2.1 = 2
          · have h9 : (if (0 : Int) ≠ 0 then ((0 : Int), (⟨#[]⟩ : ByteArray)) else if e.2.1 = 2 then (5, ⟨#[]⟩) else (0, datV (stk S) p)).1 = 0 := h
            rw [if_neg (by simp), if_pos hk] at h9
            have h8 : (5 : Int) = 0 := h9
            omega
          · show (if (0 : Int) ≠ 0 then ((0 : Int), (⟨#[]⟩ : ByteArray)) else if e.2.1 = 2 then (5, ⟨#[]⟩) else (0, e.2.2)).2 = e.2.2
            rw [if_neg (by simp), if_neg hk]
        rw [lkV_ok hS, l1, l2, hv, hrd]
        exact ⟨rfl, rfl⟩
  · rw [if_pos hp] at h
    have h9 : (2 : Int) = 0 := h
    omega
end Go.Proofs.YtlncdmdffpaojaaGreatDoor

namespace Go.Proofs.YtlncdmdffpaojaaGreatDoor
open Go.RowKit

theorem few_sm12 {S : List (List Ent)} (h : FewOK S) : S.length ≤ 100 ∧ ∀ l ∈ S, Sm l := ⟨by have := h.1; omega, fun l hl => sm_size (h.2 l hl)⟩
/-- Where something lies: the stack can be looked at, the path is one. -/
theorem lkV_zero {S : List (List Ent)} {p : List UInt8} (h : (lkV S p).1 = 0) : LkOK S ∧ isP p := by
  by_cases hS : LkOK S
  · refine ⟨hS, ?_⟩
    rw [lkV_ok hS] at h
    by_cases hp : isP p
    · exact hp
    · rw [atS_bad hp] at h; cases h
  · rw [lkV_bad hS] at h; cases h
end Go.Proofs.YtlncdmdffpaojaaGreatDoor

namespace Go.Proofs.YtlncdmdffpaojaaGreatDoor
open Go.RowKit

theorem totW_right {T : List (List Ent)} (h : ∀ l ∈ T, RightL l) : totW T ≤ 64 * T.length := by
  have key : ∀ (T : List (List Ent)) (n m : Nat), (∀ l ∈ T, RightL l) → n ≤ m → T.foldl (fun n l => n + l.length) n ≤ m + 64 * T.length := by
    intro T
    induction T with
    | nil => intro n m _ h; simpa using h
    | cons l r ih =>
      intro n m h hn
      have h1 := (h l List.mem_cons_self).1
      have := ih (n + l.length) (m + 64) (fun x hx => h x (List.mem_cons_of_mem _ hx)) (by omega)
      rw [List.length_cons]
      show r.foldl (fun n l => n + l.length) (n + l.length) ≤ _
      omega
  have := key T 0 0 h (Nat.le_refl _)
  unfold totW
  omega
theorem right_down {S : List (List Ent)} (hS : ∀ l ∈ S, RightL l) (hn : totW S ≤ 64) (j : Nat) : RightL (stk (S.take j)) := by
  have n1 := stk_tot (S.take j)
  have n3 := totW_le S j
  exact ⟨by omega, (tr_stk fun m hm => hS m (List.mem_of_mem_take hm)).1⟩
set_option maxRecDepth 10000 in
set_option maxHeartbeats 16000000 in
theorem lawStackW (L2 : Two15) (LK : Look12) (LS : Stack15) (LW : Walk13) (LR : Right15) (LT : Read11) (S : List (List Ent)) (p : ByteArray) (a : Option Addr) (cap : Nat) (W : World) (hg : EtLaid W) (hk : Stk W a cap S) : Calls Tryz.prog 3 #[.slice a S.length cap, .string p] W fun e w' => e = .returned (.bool true) ∧ Below W.heap.size W w' := by
  have HS0 := Lib.hid (st_self hg)
  have HK := Lib.hid hk
  have HK0 := Lib.hid hk
  clear hg hk
  by_cases hf : FewOK S
  · have hF1 : (if FewOK S then (1 : Int) else 0) = 1 := if_pos hf
    have HSS := Lib.hid (few_sm12 hf)
    clear hf
    by_cases hp : (100 : Int) < (p.size : Int)
    · go_enter Tryz.func3, Tryz.ntmps3
      go_wp2_with fail
      refine (goesW _).mono ?_
      rintro e w1 ⟨rfl, hb⟩
      have HS1 := Lib.hid (HS0.out.next hb)
      replace HK := Lib.hid (HK.out.below hb)
      clear hb
      go_wp2_with fail
      refine (few10 S a cap _ HK.out).mono ?_
      rintro e w9 ⟨rfl, rfl⟩
      rw [hF1]
      go_wp2_with fail
      refine (goesW _).mono ?_
      rintro e w2 ⟨rfl, hb⟩
      have HS2 := Lib.hid (HS1.out.next hb)
      replace HK := Lib.hid (HK.out.below hb)
      clear hb
      go_wp2
      go_ret
      exact ⟨by first | rfl | simp, HS2.out.below⟩
    · by_cases h8 : (8 : Int) < (S.length : Int)
      · go_enter Tryz.func3, Tryz.ntmps3
        go_wp2_with fail
        refine (goesW _).mono ?_
        rintro e w1 ⟨rfl, hb⟩
        have HS1 := Lib.hid (HS0.out.next hb)
        replace HK := Lib.hid (HK.out.below hb)
        clear hb
        go_wp2_with fail
        refine (few10 S a cap _ HK.out).mono ?_
        rintro e w9 ⟨rfl, rfl⟩
        rw [hF1]
        go_wp2_with fail
        refine (goesW _).mono ?_
        rintro e w2 ⟨rfl, hb⟩
        have HS2 := Lib.hid (HS1.out.next hb)
        replace HK := Lib.hid (HK.out.below hb)
        clear hb
        go_wp2
        go_ret
        exact ⟨by first | rfl | simp, HS2.out.below⟩
      · have H8 := Lib.hid (show S.length ≤ 8 by omega)
        have HP := Lib.hid (show p.size ≤ 100 by omega)
        go_enter Tryz.func3, Tryz.ntmps3
        go_wp2_with fail
        refine (goesW _).mono ?_
        rintro e w1 ⟨rfl, hb⟩
        have HS1 := Lib.hid (HS0.out.next hb)
        replace HK := Lib.hid (HK.out.below hb)
        clear hb
        go_wp2_with fail
        refine (few10 S a cap _ HK.out).mono ?_
        rintro e w9 ⟨rfl, rfl⟩
        rw [hF1]
        go_wp2
        go_loopg [5, 6] S.length (fun g n i wx => ∃ j : Nat, n = .int .i64 (totW (S.take j) : Int) ∧ i = .int .i64 (j : Int) ∧ j + g = S.length ∧ Hid (∀ l ∈ S.take j, RightL l) ∧ Hid (St W wx))
        case atStart => exact ⟨0, by rw [List.take_zero]; rfl, rfl, by omega, fun l hl => (by rw [List.take_zero] at hl; cases hl), HS1.out⟩
        case round =>
          obtain ⟨j, rfl, rfl, hj, HR, HSx⟩ := hrel
          by_cases hlt : j < S.length
          · have hlt' : (j : Int) < (S.length : Int) := by omega
            have hwj : IntKind.i64.wrap ((j : Int) + 1) = (j : Int) + 1 := IntWalk.i64_in _ (by have := H8.out; omega)
            have HTJ := Lib.hid (show totW (S.take j) ≤ 512 by
              have h1 := totW_right HR.out
              rw [List.length_take] at h1
              have := H8.out
              omega)
            obtain ⟨b, off, a', cap', rfl, hc, hE⟩ := Stk.at HK0.out HSx.out.below hlt
            have hx := List.getElem?_eq_getElem hlt
            obtain ⟨x, hxe⟩ : ∃ x, S[j] = x := ⟨_, rfl⟩
            have HSM := Lib.hid (HSS.out.2 S[j] (List.getElem_mem hlt))
            rw [hxe] at hc hE hx HSM
            have HX := Lib.hid hx
            have HTT := Lib.hid (totW_take hx)
            have hwn : IntKind.i64.wrap ((totW (S.take j) : Int) + (x.length : Int)) = (totW (S.take j) : Int) + (x.length : Int) := IntWalk.i64_in _ (by have := HTJ.out; have := HSM.out.1; omega)
            have HRC := Lib.hid (LR x a' cap' wr HSx.out.et (hE) HSM.out)
            clear hx hxe hE
            by_cases hr : RightL x
            · rw [decide_eq_true hr] at HRC
              have HRX := Lib.hid hr
              clear hr
              go_wp2_with fail
              refine (HRC.out).mono ?_
              rintro e w2 ⟨rfl, hb⟩
              have HS2 := Lib.hid (HSx.out.next hb)
              clear hb
              go_wp2
              go_roundg (gk - 1)
              case measure => omega
              case rel =>
                refine ⟨j + 1, ?_, by simp, by omega, ?_, HS2.out⟩
                · rw [HTT.out]
                  simp
                · intro l hl
                  rw [List.take_add_one, HX.out] at hl
                  rcases List.mem_append.1 hl with hl | hl
                  · exact HR.out l hl
                  · obtain rfl : l = x := by simpa using hl
                    exact HRX.out
            · rw [decide_eq_false hr] at HRC
              clear hr
              go_wp2_with fail
              refine (HRC.out).mono ?_
              rintro e w2 ⟨rfl, hb⟩
              have HS2 := Lib.hid (HSx.out.next hb)
              clear hb
              go_wp2
              go_ret
              exact ⟨by first | rfl | simp, HS2.out.below⟩
          · have hlt' : ¬ (j : Int) < (S.length : Int) := by omega
            have HRA := Lib.hid (show ∀ l ∈ S, RightL l by have := HR.out; rwa [List.take_of_length_le (by omega)] at this)
            have hts : totW (S.take j) = totW S := by rw [List.take_of_length_le (by omega)]
            rw [hts]
            by_cases h64 : (64 : Int) < (totW S : Int)
            · clear hts
              go_wp2
              go_ret
              exact ⟨by first | rfl | simp, HSx.out.below⟩
            · have HN := Lib.hid (show totW S ≤ 64 by omega)
              have HOK := Lib.hid (show LkOK S from ⟨by have := H8.out; omega, HRA.out⟩)
              obtain ⟨T, hT⟩ : ∃ T, stk S = T := ⟨_, rfl⟩
              have HT := Lib.hid hT
              have HRT := Lib.hid (show RightL T by
                have := right_down HRA.out HN.out S.length
                rwa [List.take_length, hT] at this)
              have HTT := Lib.hid (show TreeL T by rw [← hT]; exact ⟨by rw [hT]; have := HRT.out.1; omega, tr_stk HRA.out⟩)
              have HLS : Hid (∀ w, EtLaid w → Stk w a cap S → Calls Tryz.prog 7 #[.slice a S.length cap] w fun e w' => ∃ a' cap', e = .returned (.slice a' T.length cap') ∧ Ents w' a' cap' T ∧ Below w.heap.size w w') := fun w h1 h2 => by
                have := LS S a cap w h1 h2 (by have := H8.out; omega) HSS.out.2
                rwa [show fsV S = T by rw [← hT]; exact if_pos HOK.out] at this
              have HLW : Hid (∀ w, EtLaid w → Stk w a cap S → Calls Tryz.prog 13 #[.slice a S.length cap] w fun e w' => ∃ a' cap', e = .returned (.slice a' T.length cap') ∧ Ents w' a' cap' T ∧ Below w.heap.size w w') := fun w h1 h2 => by
                have := LW S a cap w h1 h2 (by have := H8.out; omega) HSS.out.2
                rwa [show wkV S = T by rw [← hT]; exact if_pos HOK.out] at this
              clear hts hT
              have HSy := Lib.hid HSx.out
              go_wp2_with fail
              refine (HLS.out _ HSx.out.et (HK0.out.below HSx.out.below)).mono ?_
              rintro e w2 ⟨aT, cT, rfl, h9, hb⟩
              have HE := Lib.hid h9
              have HS2 := Lib.hid (HSx.out.next hb)
              clear h9 hb
              go_wp2
              go_loopg [8, 9] S.length (fun g o i wx => ∃ (k : Nat) (a' : Option Addr) (c' : Nat), o = .slice a' (stk (S.take k)).length c' ∧ i = .int .i64 (k : Int) ∧ k + g = S.length ∧ Hid (Ents wx a' c' (stk (S.take k))) ∧ Hid (Ents wx aT cT T) ∧ Hid (St W wx))
              case atStart => exact ⟨0, none, 0, by rw [List.take_zero]; rfl, rfl, by omega, by rw [List.take_zero]; exact ents_nil _ _ _, HE.out, HS2.out⟩
              case round =>
                obtain ⟨k, a5, c5, rfl, rfl, hk, HO, HET, HS9⟩ := hrel
                by_cases hlk : k < S.length
                · have hlk' : (k : Int) < (S.length : Int) := by omega
                  have hwk : IntKind.i64.wrap ((k : Int) + 1) = (k : Int) + 1 := IntWalk.i64_in _ (by have := H8.out; omega)
                  obtain ⟨b, off, a', cap', rfl, hc, hE⟩ := Stk.at HK0.out HS9.out.below hlk
                  have hx := List.getElem?_eq_getElem hlk
                  obtain ⟨x, hxe⟩ : ∃ x, S[k] = x := ⟨_, rfl⟩
                  have HSM := Lib.hid (HSS.out.2 S[k] (List.getElem_mem hlk))
                  rw [hxe] at hc hE hx HSM
                  have HTW := Lib.hid (L2 (stk (S.take k)) a5 c5 x a' cap' true wr HS9.out.et HO.out (hE) (sm_right (right_down HRA.out HN.out k)) HSM.out)
                  rw [down_step HRA.out HN.out hx] at HTW
                  obtain ⟨O2, hO2⟩ : ∃ O2, stk (S.take (k + 1)) = O2 := ⟨_, rfl⟩
                  rw [hO2] at HTW
                  have HO2 := Lib.hid hO2
                  clear hx hxe hE hO2
                  go_wp2_with fail
                  refine (HTW.out).mono ?_
                  rintro e w4 ⟨a6, c6, er, rfl, h9, he, hb⟩
                  have HER := Lib.hid he
                  have HE6 := Lib.hid h9
                  have HS10 := Lib.hid (HS9.out.next hb)
                  replace HET := Lib.hid (RowN.below HET.out hb)
                  clear h9 he hb
                  go_wp2_with fail
                  refine (code_er _ _ _ HER.out HS10.out.et).mono ?_
                  rintro e w5 ⟨rfl, hb⟩
                  have HS11 := Lib.hid (HS10.out.next hb)
                  replace HET := Lib.hid (RowN.below HET.out hb)
                  replace HE6 := Lib.hid (RowN.below HE6.out hb)
                  clear hb
                  go_wp2
                  go_roundg (S.length - (k + 1))
                  case measure => omega
                  case rel => exact ⟨k + 1, a6, c6, by rw [HO2.out], by simp, by omega, by rw [HO2.out]; exact HE6.out, HET.out, HS11.out⟩
                · have hlk' : ¬ (k : Int) < (S.length : Int) := by omega
                  have hkt : stk (S.take k) = T := by rw [List.take_of_length_le (by omega)]; exact HT.out
                  rw [hkt] at HO
                  rw [hkt]
                  have HS0 := Lib.hid HS9.out
                  have HK := Lib.hid (HK0.out.below HS9.out.below)
                  have HML := Lib.hid (show T.length ≤ maxLen by have := HRT.out.1; unfold maxLen; omega)
                  obtain ⟨E1, hE1⟩ : ∃ x, (lkV S p.data.toList).2 = x := ⟨_, rfl⟩
                  obtain ⟨n1, hn1⟩ : ∃ x, (lkV S p.data.toList).1 = x := ⟨_, rfl⟩
                  obtain ⟨d1, hd1⟩ : ∃ x, (rdV T p.data.toList).2 = x := ⟨_, rfl⟩
                  obtain ⟨n2, hn2⟩ : ∃ x, (rdV T p.data.toList).1 = x := ⟨_, rfl⟩
                  have HAT : Hid (∀ w, EtLaid w → Stk w a cap S → Calls Tryz.prog 10 #[.slice a S.length cap, .string p] w fun e w' => ∃ er, e = .returned (.tuple #[fdnV E1, er]) ∧ Er w' n1 er ∧ Below w.heap.size w w') := fun w h1 h2 => by
                    have := LK S a cap p w h1 h2 (by have := H8.out; omega) HSS.out.2 (by have := HP.out; omega)
                    rwa [hE1, hn1] at this
                  have HRD : Hid (∀ w, EtLaid w → Ents w aT cT T → Calls Tryz.prog 11 #[.slice aT T.length cT, .string p] w fun e w' => ∃ er, e = .returned (.tuple #[.string d1, er]) ∧ Er w' n2 er ∧ Below w.heap.size w w') := fun w h1 h2 => by
                    have := LT T aT cT p w h1 h2 HTT.out (by have := HRT.out.1; omega) (by have := HP.out; omega)
                    rwa [hd1, hn2] at this
                  have HRL : Hid (n2 = 0 → n1 = 0 ∧ E1.1.2.2 = d1) := fun h => by
                    have := read_look HOK.out (p := p.data.toList) (by rw [HT.out, hn2]; exact h)
                    rwa [HT.out, hn1, hE1, hd1] at this
                  obtain ⟨w0, hw0⟩ : ∃ w, w = wr := ⟨_, rfl⟩
                  subst hw0
                  clear hE1 hn1 hd1 hn2 hkt
                  go_wp2_with fail
                  refine (HAT.out _ HS0.out.et HK.out).mono ?_
                  rintro e w1 ⟨erf, rfl, e9, hb⟩
                  have Herf := Lib.hid e9
                  clear e9
                  have HS1 := Lib.hid (HS0.out.next hb)
                  replace HK := Lib.hid (HK.out.below hb)
                  replace HO := Lib.hid (RowN.below HO.out hb)
                  replace HET := Lib.hid (RowN.below HET.out hb)
                  clear hb
                  obtain ⟨Vf, w2, Mf, hVf, hMf, hUf, hv, hu, hb⟩ := fd_box w1 E1
                  have v0 := hv.c0
                  have v1 := hv.c1
                  have v2 := hv.c2
                  have v3 := hv.c3
                  have vf0 := hv.f0
                  have vf1 := hv.f1
                  have vf2 := hv.f2
                  have vf3 := hv.f3
                  have Hf := Lib.hid hu
                  clear hv hu
                  have HS2 := Lib.hid (HS1.out.next hb)
                  replace HK := Lib.hid (HK.out.below hb)
                  replace HO := Lib.hid (RowN.below HO.out hb)
                  replace HET := Lib.hid (RowN.below HET.out hb)
                  replace Herf := Lib.hid (Herf.out.below hb)
                  clear hb
                  go_wp2_with fail
                  refine (HRD.out _ HS2.out.et HET.out).mono ?_
                  rintro e w3 ⟨ert, rfl, e9, hb⟩
                  have Hert := Lib.hid e9
                  clear e9
                  replace Hf := Lib.hid (Hf.out.below hb)
                  have HS3 := Lib.hid (HS2.out.next hb)
                  replace HK := Lib.hid (HK.out.below hb)
                  replace HO := Lib.hid (RowN.below HO.out hb)
                  replace HET := Lib.hid (RowN.below HET.out hb)
                  replace Herf := Lib.hid (Herf.out.below hb)
                  clear hb
                  clear v0 v1 v2 v3 vf0 vf1 vf2 vf3 hVf hMf hUf
                  have qf0 := Hf.out.c0
                  have qf1 := Hf.out.c1
                  have qf2 := Hf.out.c2
                  have qf3 := Hf.out.c3
                  by_cases hz : n2 = 0
                  · obtain ⟨z1, z2⟩ := HRL.out hz
                    subst hz
                    subst z1
                    have hq : (E1.1.2.2.toList != d1.toList) = false := by rw [z2]; simp
                    have hq2 : (E1.1.2.2.toList == d1.toList) = true := by rw [z2]; simp
                    clear z2
                    go_wp2_with fail
                    refine (code_er _ _ _ Hert.out HS3.out.et).mono ?_
                    rintro e w4 ⟨rfl, hb⟩
                    have HS4 := Lib.hid (HS3.out.next hb)
                    replace HK := Lib.hid (HK.out.below hb)
                    replace HO := Lib.hid (RowN.below HO.out hb)
                    replace HET := Lib.hid (RowN.below HET.out hb)
                    replace Herf := Lib.hid (Herf.out.below hb)
                    replace Hert := Lib.hid (Hert.out.below hb)
                    replace Hf := Lib.hid (Hf.out.below hb)
                    clear qf0 qf1 qf2 qf3
                    clear hb
                    have qf0 := Hf.out.c0
                    have qf1 := Hf.out.c1
                    have qf2 := Hf.out.c2
                    have qf3 := Hf.out.c3
                    go_wp2_with fail
                    refine (code_er _ _ _ Herf.out HS4.out.et).mono ?_
                    rintro e w5 ⟨rfl, hb⟩
                    have HS5 := Lib.hid (HS4.out.next hb)
                    replace HK := Lib.hid (HK.out.below hb)
                    replace HO := Lib.hid (RowN.below HO.out hb)
                    replace HET := Lib.hid (RowN.below HET.out hb)
                    replace Herf := Lib.hid (Herf.out.below hb)
                    replace Hert := Lib.hid (Hert.out.below hb)
                    replace Hf := Lib.hid (Hf.out.below hb)
                    clear qf0 qf1 qf2 qf3
                    clear hb
                    have qf0 := Hf.out.c0
                    have qf1 := Hf.out.c1
                    have qf2 := Hf.out.c2
                    have qf3 := Hf.out.c3
                    go_wp2_with fail
                    refine (same9 _ _ _ _ _ _ _ HO.out HET.out HML.out).mono ?_
                    rintro e w6 ⟨rfl, hb⟩
                    have HS6 := Lib.hid (HS5.out.next hb)
                    replace HK := Lib.hid (HK.out.below hb)
                    replace HO := Lib.hid (RowN.below HO.out hb)
                    replace HET := Lib.hid (RowN.below HET.out hb)
                    replace Herf := Lib.hid (Herf.out.below hb)
                    replace Hert := Lib.hid (Hert.out.below hb)
                    replace Hf := Lib.hid (Hf.out.below hb)
                    clear qf0 qf1 qf2 qf3
                    clear hb
                    have qf0 := Hf.out.c0
                    have qf1 := Hf.out.c1
                    have qf2 := Hf.out.c2
                    have qf3 := Hf.out.c3
                    rw [if_pos rfl]
                    go_wp2_with fail
                    refine (HLW.out _ HS6.out.et HK.out).mono ?_
                    rintro e w7 ⟨aQ, cQ, rfl, h9, hb⟩
                    have HQ := Lib.hid h9
                    clear h9
                    have HS7 := Lib.hid (HS6.out.next hb)
                    replace HK := Lib.hid (HK.out.below hb)
                    replace HO := Lib.hid (RowN.below HO.out hb)
                    replace HET := Lib.hid (RowN.below HET.out hb)
                    replace Herf := Lib.hid (Herf.out.below hb)
                    replace Hert := Lib.hid (Hert.out.below hb)
                    replace Hf := Lib.hid (Hf.out.below hb)
                    clear qf0 qf1 qf2 qf3
                    clear hb
                    have qf0 := Hf.out.c0
                    have qf1 := Hf.out.c1
                    have qf2 := Hf.out.c2
                    have qf3 := Hf.out.c3
                    go_wp2_with fail
                    refine (same9 _ _ _ _ _ _ _ HQ.out HET.out HML.out).mono ?_
                    rintro e w8 ⟨rfl, hb⟩
                    have HS8 := Lib.hid (HS7.out.next hb)
                    replace HK := Lib.hid (HK.out.below hb)
                    replace HO := Lib.hid (RowN.below HO.out hb)
                    replace HET := Lib.hid (RowN.below HET.out hb)
                    replace Herf := Lib.hid (Herf.out.below hb)
                    replace Hert := Lib.hid (Hert.out.below hb)
                    replace Hf := Lib.hid (Hf.out.below hb)
                    replace HQ := Lib.hid (RowN.below HQ.out hb)
                    clear qf0 qf1 qf2 qf3
                    clear hb
                    have qf0 := Hf.out.c0
                    have qf1 := Hf.out.c1
                    have qf2 := Hf.out.c2
                    have qf3 := Hf.out.c3
                    rw [if_pos rfl]
                    go_wp2
                    go_ret
                    exact ⟨by first | rfl | simp, HS8.out.below⟩
                  · have hz2 : (n2 == 0) = false := by simp [hz]
                    go_wp2_with fail
                    refine (code_er _ _ _ Hert.out HS3.out.et).mono ?_
                    rintro e w4 ⟨rfl, hb⟩
                    have HS4 := Lib.hid (HS3.out.next hb)
                    replace HK := Lib.hid (HK.out.below hb)
                    replace HO := Lib.hid (RowN.below HO.out hb)
                    replace HET := Lib.hid (RowN.below HET.out hb)
                    replace Herf := Lib.hid (Herf.out.below hb)
                    replace Hert := Lib.hid (Hert.out.below hb)
                    replace Hf := Lib.hid (Hf.out.below hb)
                    clear qf0 qf1 qf2 qf3
                    clear hb
                    have qf0 := Hf.out.c0
                    have qf1 := Hf.out.c1
                    have qf2 := Hf.out.c2
                    have qf3 := Hf.out.c3
                    go_wp2_with fail
                    refine (same9 _ _ _ _ _ _ _ HO.out HET.out HML.out).mono ?_
                    rintro e w5 ⟨rfl, hb⟩
                    have HS5 := Lib.hid (HS4.out.next hb)
                    replace HK := Lib.hid (HK.out.below hb)
                    replace HO := Lib.hid (RowN.below HO.out hb)
                    replace HET := Lib.hid (RowN.below HET.out hb)
                    replace Herf := Lib.hid (Herf.out.below hb)
                    replace Hert := Lib.hid (Hert.out.below hb)
                    replace Hf := Lib.hid (Hf.out.below hb)
                    clear qf0 qf1 qf2 qf3
                    clear hb
                    have qf0 := Hf.out.c0
                    have qf1 := Hf.out.c1
                    have qf2 := Hf.out.c2
                    have qf3 := Hf.out.c3
                    rw [if_pos rfl]
                    go_wp2_with fail
                    refine (HLW.out _ HS5.out.et HK.out).mono ?_
                    rintro e w6 ⟨aQ, cQ, rfl, h9, hb⟩
                    have HQ := Lib.hid h9
                    clear h9
                    have HS6 := Lib.hid (HS5.out.next hb)
                    replace HK := Lib.hid (HK.out.below hb)
                    replace HO := Lib.hid (RowN.below HO.out hb)
                    replace HET := Lib.hid (RowN.below HET.out hb)
                    replace Herf := Lib.hid (Herf.out.below hb)
                    replace Hert := Lib.hid (Hert.out.below hb)
                    replace Hf := Lib.hid (Hf.out.below hb)
                    clear qf0 qf1 qf2 qf3
                    clear hb
                    have qf0 := Hf.out.c0
                    have qf1 := Hf.out.c1
                    have qf2 := Hf.out.c2
                    have qf3 := Hf.out.c3
                    go_wp2_with fail
                    refine (same9 _ _ _ _ _ _ _ HQ.out HET.out HML.out).mono ?_
                    rintro e w7 ⟨rfl, hb⟩
                    have HS7 := Lib.hid (HS6.out.next hb)
                    replace HK := Lib.hid (HK.out.below hb)
                    replace HO := Lib.hid (RowN.below HO.out hb)
                    replace HET := Lib.hid (RowN.below HET.out hb)
                    replace Herf := Lib.hid (Herf.out.below hb)
                    replace Hert := Lib.hid (Hert.out.below hb)
                    replace Hf := Lib.hid (Hf.out.below hb)
                    replace HQ := Lib.hid (RowN.below HQ.out hb)
                    clear qf0 qf1 qf2 qf3
                    clear hb
                    have qf0 := Hf.out.c0
                    have qf1 := Hf.out.c1
                    have qf2 := Hf.out.c2
                    have qf3 := Hf.out.c3
                    rw [if_pos rfl]
                    go_wp2
                    go_ret
                    exact ⟨by first | rfl | simp, HS7.out.below⟩
  · have hF1 : (if FewOK S then (1 : Int) else 0) = 0 := if_neg hf
    clear hf
    go_enter Tryz.func3, Tryz.ntmps3
    go_wp2_with fail
    refine (goesW _).mono ?_
    rintro e w1 ⟨rfl, hb⟩
    have HS1 := Lib.hid (HS0.out.next hb)
    replace HK := Lib.hid (HK.out.below hb)
    clear hb
    go_wp2_with fail
    refine (few10 S a cap _ HK.out).mono ?_
    rintro e w9 ⟨rfl, rfl⟩
    rw [hF1]
    go_wp2_with fail
    refine (goesW _).mono ?_
    rintro e w2 ⟨rfl, hb⟩
    have HS2 := Lib.hid (HS1.out.next hb)
    replace HK := Lib.hid (HK.out.below hb)
    clear hb
    go_wp2
    go_ret
    exact ⟨by first | rfl | simp, HS2.out.below⟩
end Go.Proofs.YtlncdmdffpaojaaGreatDoor
