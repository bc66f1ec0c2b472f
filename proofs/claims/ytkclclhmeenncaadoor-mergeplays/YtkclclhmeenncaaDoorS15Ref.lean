/-
  The document's own Two (package shaleref15): what two right layers come to. Condition: both lie in memory, and are right.
-/
import Derived.Test.YtkclclhmeenncaaDoorS10Under
import Derived.Test.YtkclclhmeenncaaDoorS9RefW
import Derived.Test.YtkclclhmeenncaaDoorPb
import Derived.Test.YtkclclhmeenncaaDoorS15PlaysL
namespace Go.Proofs.YtkclclhmeenncaaDoor
open Go.RowKit

theorem fnd_take15 {l : List Ent} (p : List UInt8) {k : Nat} (hk : k < l.length) : fnd (l.take (k + 1)) p = (fnd (l.take k) p).or (if pl l[k] = p then some l[k] else none) := by
  unfold fnd
  rw [List.take_add_one, List.getElem?_eq_getElem hk, List.find?_append]
  by_cases h : pl l[k] = p
  · simp [h]
  · simp [h]
set_option maxRecDepth 10000 in
set_option maxHeartbeats 1000000 in
theorem refFind15 (l : List Ent) (a : Option Addr) (cap : Nat) (p : ByteArray) (w : World) (h : Ents w a cap l) (hl : l.length ≤ 1000) : Calls Tryd.prog 20 #[.slice a l.length cap, .string p] w fun e w' => (∃ n : Int, e = .returned (.int .i64 n) ∧ ((0 ≤ n ∧ (fnd l p.data.toList).isSome = true) ∨ (n = -1 ∧ fnd l p.data.toList = none))) ∧ w = w' := by
  have HE := Lib.hid h
  have HL := Lib.hid hl
  clear h hl
  go_enter Tryd.func20, Tryd.ntmps20
  go_wp2
  go_loopg [5] l.length (fun g i wx => ∃ k : Nat, i = .int .i64 (k : Int) ∧ k + g = l.length ∧ Hid (fnd (l.take k) p.data.toList = none) ∧ wx = w)
  case atStart => exact ⟨0, rfl, by omega, rfl, rfl⟩
  case round =>
    obtain ⟨k, rfl, hk, HN, rfl⟩ := hrel
    by_cases hlt : k < l.length
    · have hlt' : (k : Int) < (l.length : Int) := by omega
      have hw : IntKind.i64.wrap ((k : Int) + 1) = (k : Int) + 1 := IntWalk.i64_in _ (by have := HL.out; omega)
      obtain ⟨b, off, rfl, hb, hc⟩ := HE.out.at (Below.refl _ _) hlt
      have HF := Lib.hid (fnd_take15 (l := l) p.data.toList hlt)
      have HMEM := Lib.hid (List.getElem_mem hlt)
      obtain ⟨x, hx⟩ : ∃ x, l[k] = x := ⟨_, rfl⟩
      rw [hx] at hc HF HMEM
      have c0 := hc.c0
      clear hc hx hb
      by_cases hp : pl x = p.data.toList
      · have gp : (x.1.toList == p.toList) = true := by rw [Lib.toList_data, Lib.toList_data, beq_iff_eq]; exact hp
        have HS := Lib.hid (show (fnd l p.data.toList).isSome = true by
          cases hf : fnd l p.data.toList with
          | none => exact absurd hp (fnd_none.1 hf _ HMEM.out)
          | some y => rfl)
        clear hp
        go_wp2
        go_ret
        exact ⟨⟨_, rfl, .inl ⟨by omega, HS.out⟩⟩, rfl⟩
      · have gp : (x.1.toList == p.toList) = false := by rw [Lib.toList_data, Lib.toList_data, beq_eq_false_iff_ne]; exact hp
        have HN2 := Lib.hid (show fnd (l.take (k + 1)) p.data.toList = none by rw [HF.out, HN.out, if_neg hp]; rfl)
        clear hp
        go_wp2
        go_roundg (gk - 1)
        case measure => omega
        case rel => exact ⟨k + 1, by simp, by omega, HN2.out, rfl⟩
    · have hlt' : ¬ (k : Int) < (l.length : Int) := by omega
      have HN2 := Lib.hid (show fnd l p.data.toList = none by have := HN.out; rw [List.take_of_length_le (by omega)] at this; exact this)
      go_wp2
      go_ret
      exact ⟨⟨_, rfl, .inr ⟨rfl, HN2.out⟩⟩, rfl⟩
theorem adds_small15 (low high : List Ent) : ∀ (r o : List Ent), (∀ e ∈ r, e.1.size ≤ 54) → (∀ e ∈ o, e.1.size ≤ 54) → ∀ e ∈ r.foldl (add15 low high) o, e.1.size ≤ 54
  | [], _, _, h => h
  | x :: r, o, hr, h => adds_small15 low high r _ (fun e he => hr e (List.mem_cons_of_mem _ he)) fun e he => by
    unfold add15 at he
    split at he
    · exact h e he
    · unfold wth at he
      rcases List.mem_append.1 he with he | he
      · exact h e (List.mem_filter.1 he).1
      · rcases List.mem_cons.1 he with rfl | he
        · unfold laid15
          split
          · exact hr x List.mem_cons_self
          · exact hr x List.mem_cons_self
        · exact h e (List.mem_filter.1 he).1
theorem rl_small15 {l : List Ent} (h : RL l) : ∀ e ∈ l, e.1.size ≤ 54 := fun e he => by
  have := isP_len (rE_isP (h.1 e he)).1
  rwa [← Lib.size_eq] at this
theorem hides_eq15 {x z : Ent} (hx : isP (pl x)) (hz : isP (pl z)) (hz2 : pl z ≠ [47]) : hides15 (pl x) z = (decide (z.2.1 ≠ 2) && (decide (pl z = pl x) || upx (pl x) (pl z))) := by
  unfold hides15
  rw [upx_und hx hz hz2]
attribute [local go_sem ↓] old_ldi old_lds old_lde3 old_eqen old_neen
attribute [local go_sem] oldC_forall isC1_ptr isS1_ptr c1V_ptr isE3_ptr e3V_ptr isEv_agg evEq_agg eta_ent
set_option maxRecDepth 10000 in
set_option maxHeartbeats 8000000 in
theorem refTwo15 : RefTwo15 := by
  intro low a ca high b cb bot w h h2 hl hh
  have HE := Lib.hid h
  have HE2 := Lib.hid h2
  have HL := Lib.hid hl
  have HH := Lib.hid hh
  have HLS := Lib.hid (rl_small15 hl.2)
  have HHS := Lib.hid (rl_small15 hh.2)
  have HM := Lib.hid (show two15 low high bot = if bot = true then bot15 (ref15 low high) else ref15 low high by rw [ref_mrg hl.2 hh.2]; rfl)
  clear h h2 hl hh
  go_enter Tryd.func9, Tryd.ntmps9
  go_wp2
  go_loopg [7, 8] low.length (fun g v i wx => ∃ n : Nat, i = .int .i64 (n : Int) ∧ n + g = low.length ∧ Hid (OwnE wx w.heap.size v ((low.take n).filter (kept15 high))) ∧ Hid (Below w.heap.size w wx))
  case atStart => exact ⟨0, rfl, by omega, by simpa [Hid] using ownE_nil _ _, Below.refl _ _⟩
  case round =>
    obtain ⟨n, rfl, hn, HO, HB⟩ := hrel
    by_cases hlt : n < low.length
    · have hlt' : (n : Int) < (low.length : Int) := by omega
      have hwn : IntKind.i64.wrap ((n : Int) + 1) = (n : Int) + 1 := IntWalk.i64_in _ (by have := HL.out.1; omega)
      have HX := Lib.hid (HL.out.2.1 _ (List.getElem_mem hlt))
      have HXF := Lib.hid (filt_step (l := low) (kept15 high) hlt)
      obtain ⟨x, hx⟩ : ∃ x, low[n] = x := ⟨_, rfl⟩
      rw [hx] at HX HXF
      have HXK := Lib.hid hx
      have HXP := Lib.hid (rE_isP HX.out).1
      have HFL := Lib.hid (show ((low.take n).filter (kept15 high)).length ≤ 1000 by
        have h1 := List.length_filter_le (kept15 high) (low.take n)
        have := HL.out.1
        rw [List.length_take] at h1
        omega)
      clear hx
      obtain ⟨wb, hwb⟩ : ∃ wb, wb = wr := ⟨_, rfl⟩
      subst hwb
      go_wp2
      go_loopg [9, 10] high.length (fun g d i wx => ∃ m : Nat, d = .bool (hidK high (pl x) m) ∧ i = .int .i64 (m : Int) ∧ m + g = high.length ∧ Hid (Below wb.heap.size wb wx))
      case atStart => exact ⟨0, rfl, rfl, by omega, Below.refl _ _⟩
      case round =>
        obtain ⟨m, rfl, rfl, hm, HBI⟩ := hrel
        have HW1 := Lib.hid (HB.out.trans (HBI.out.mono HB.out.size))
        obtain ⟨bq, oq, eq9, _, hcq⟩ := Ents.at HE.out HW1.out hlt
        rw [HXK.out] at hcq
        cases eq9
        have x0 := hcq.c0
        have x1 := hcq.c1
        have x2 := hcq.c2
        clear hcq
        by_cases hlm : m < high.length
        · have hlm' : (m : Int) < (high.length : Int) := by omega
          have hwm : IntKind.i64.wrap ((m : Int) + 1) = (m : Int) + 1 := IntWalk.i64_in _ (by have := HH.out.1; omega)
          obtain ⟨bz, oz, e9, _, hc⟩ := Ents.at HE2.out HW1.out hlm
          have HST := Lib.hid (hidK_step (h := high) (pl x) hlm)
          have HZ := Lib.hid (HH.out.2.1 _ (List.getElem_mem hlm))
          obtain ⟨z, hz⟩ : ∃ z, high[m] = z := ⟨_, rfl⟩
          rw [hz] at hc HST HZ
          clear hz
          cases e9
          have z0 := hc.c0
          have z1 := hc.c1
          have z2 := hc.c2
          clear hc
          have HUZ := Lib.hid (show z.1.size ≤ 100000 by
            have := isP_len (rE_isP HZ.out).1
            rw [← Lib.size_eq] at this
            omega)
          have HU0 : Hid (∀ w0 w', OldC w0 w' → Calls Tryd.prog 19 #[.string x.1, .string z.1] w' fun e w'' => e = .returned (.bool (upx (pl x) (pl z))) ∧ OldC w0 w'') := fun w0 w' hw' => by
            refine (refUnd x.1 z.1 HUZ.out w').mono ?_
            rintro e w'' ⟨rfl, rfl⟩
            exact ⟨rfl, hw'⟩
          have hs := HST.out
          rw [hides_eq15 HXP.out (rE_isP HZ.out).1 (rE_isP HZ.out).2] at hs
          obtain ⟨uv, huv⟩ : ∃ uv, upx (pl x) (pl z) = uv := ⟨_, rfl⟩
          obtain ⟨hv, hhv⟩ : ∃ hv, hidK high (pl x) m = hv := ⟨_, rfl⟩
          rw [huv, hhv] at hs
          rw [huv] at HU0
          have HU := HU0
          rw [hhv]
          have hh9 : (z.1.toList == x.1.toList) = decide (pl z = pl x) := by rw [Lib.toList_data, Lib.toList_data, Bool.eq_iff_iff, beq_iff_eq, decide_eq_true_iff]
          have ways : ((z.2.1 != 2) = false ∧ hidK high (pl x) (m + 1) = hv) ∨ ((z.2.1 != 2) = true ∧ (z.1.toList == x.1.toList) = true ∧ hidK high (pl x) (m + 1) = true) ∨ ((z.2.1 != 2) = true ∧ (z.1.toList == x.1.toList) = false ∧ uv = true ∧ hidK high (pl x) (m + 1) = true) ∨ ((z.2.1 != 2) = true ∧ (z.1.toList == x.1.toList) = false ∧ uv = false ∧ hidK high (pl x) (m + 1) = hv) := by
            rw [hh9, hs]
            by_cases h1 : z.2.1 = 2
            · exact .inl ⟨by rw [h1]; rfl, by simp [h1]⟩
            · have h1' : (z.2.1 != 2) = true := bne_iff_ne.2 h1
              by_cases h2 : pl z = pl x
              · exact .inr (.inl ⟨h1', decide_eq_true h2, by simp [h1, h2]⟩)
              · cases uv with
                | true => exact .inr (.inr (.inl ⟨h1', decide_eq_false h2, rfl, by simp [h1]⟩))
                | false => exact .inr (.inr (.inr ⟨h1', decide_eq_false h2, rfl, by simp [h2]⟩))
          clear hh9 huv hs hhv HST HU0
          rcases ways with ⟨g1, hdn⟩ | ⟨g1, g2, hdn⟩ | ⟨g1, g2, rfl, hdn⟩ | ⟨g1, g2, rfl, hdn⟩
          all_goals
            have HDN := Lib.hid hdn.symm
            clear hdn
            go_wp2_with fail
            refine wp_region_old (by kernel_rfl) (by kernel_rfl) ?_
            repeat (go_big_quiet_step ((first | (intro hw; with_reducible exact HU.out _ _ hw))))
            refine wpQuiet_nil ?_
            intro w3 hb
            have HB3 := Lib.hid (show Below wb.heap.size wb w3 from HBI.out.trans (Below.mono hb HBI.out.size))
            clear hb x0 x1 x2 z0 z1 z2
            go_wp2
            go_roundg (high.length - (m + 1))
            case measure => omega
            case rel => exact ⟨m + 1, congrArg Value.bool HDN.out, by simp, by omega, HB3.out⟩
        · have hlm' : ¬ (m : Int) < (high.length : Int) := by omega
          have HKE := Lib.hid (kept_hid high x)
          have hme : m = high.length := by omega
          have HOW := Lib.hid (HO.out.below HBI.out)
          rw [hme]
          obtain ⟨hv, hhv⟩ : ∃ hv, hidK high (pl x) high.length = hv := ⟨_, rfl⟩
          rw [hhv] at HKE ⊢
          rw [hme] at hlm'
          clear hme hhv
          go_wp2_with fail
          refine (refFind15 high b cb x.1 _ (HE2.out.below HW1.out) (by have := HH.out.1; omega)).mono ?_
          rintro e w9 ⟨⟨n9, rfl, hn9⟩, rfl⟩
          have ways : (kept15 high x = true ∧ hv = false ∧ n9 = -1) ∨ (kept15 high x = true ∧ hv = false ∧ ¬ n9 < 0 ∧ (x.2.1 == 2) = true) ∨ (kept15 high x = true ∧ hv = false ∧ ¬ n9 < 0 ∧ (x.2.1 == 2) = false ∧ (x.2.1 == 4) = true) ∨ (kept15 high x = false ∧ hv = true) ∨ (kept15 high x = false ∧ hv = false ∧ ¬ n9 < 0 ∧ (x.2.1 == 2) = false ∧ (x.2.1 == 4) = false) := by
            rw [HKE.out]
            cases hv with
            | true => exact .inr (.inr (.inr (.inl ⟨rfl, rfl⟩)))
            | false =>
              rcases hn9 with ⟨h1, h2⟩ | ⟨h1, h2⟩
              · have h3 : (fnd high (pl x)).isNone = false := by
                  rw [Option.isNone_eq_false_iff]
                  exact h2
                rw [h3]
                cases k2 : (x.2.1 == 2) with
                | true => exact .inr (.inl ⟨rfl, rfl, by omega, rfl⟩)
                | false =>
                  cases k4 : (x.2.1 == 4) with
                  | true => exact .inr (.inr (.inl ⟨rfl, rfl, by omega, rfl, rfl⟩))
                  | false => exact .inr (.inr (.inr (.inr ⟨rfl, rfl, by omega, rfl, rfl⟩)))
              · have h3 : (fnd high (pl x)).isNone = true := by
                  rw [Option.isNone_iff_eq_none]
                  exact h2
                exact .inl ⟨by rw [h3]; rfl, rfl, h1⟩
          clear hn9 HKE
          rcases ways with ⟨hk, rfl, rfl⟩ | ⟨hk, rfl, g1, g2⟩ | ⟨hk, rfl, g1, g2, g3⟩ | ⟨hk, rfl⟩ | ⟨hk, rfl, g1, g2, g3⟩
          iterate 3
            · have HFN := Lib.hid (show (low.take (n + 1)).filter (kept15 high) = (low.take n).filter (kept15 high) ++ [x] by rw [HXF.out, if_pos hk])
              clear hk
              go_wp2_with (at_builtin; refine Stopped.go ?_)
              unfold Stopped
              refine wl_putE (by rfl) _ _ (by rfl) w.heap.size u7 _ x (by rfl) (HOW.out.below ((Below.refl _ _).alloc (Nat.le_refl _) _)) (by have := HW1.out.size; simp; omega) wr.heap.size (by rfl) (enAt_new wr x.1 x.2.1 x.2.2) HFL.out ?_
              intro v6 w6 ho hg
              have HB6 := Lib.hid ((HW1.out.alloc HW1.out.size (.cells #[.string x.1, .int .i64 x.2.1, .string x.2.2] 35)).grown hg (by have := HW1.out.size; simp; omega) (fun k hk => (ownE_blk HOW.out k hk).1))
              have HO6 := Lib.hid ho
              clear ho hg
              go_wp2
              go_roundg (low.length - (n + 1))
              case measure => omega
              case rel => exact ⟨n + 1, by simp, by omega, by rw [HFN.out]; exact HO6.out, HB6.out⟩
          all_goals
            have HFN := Lib.hid (show (low.take (n + 1)).filter (kept15 high) = (low.take n).filter (kept15 high) by rw [HXF.out, if_neg (by rw [hk]; simp)])
            clear hk
            go_wp2
            go_roundg (low.length - (n + 1))
            case measure => omega
            case rel => exact ⟨n + 1, by simp, by omega, by rw [HFN.out]; exact HOW.out, HW1.out⟩
    · have hlt' : ¬ (n : Int) < (low.length : Int) := by omega
      have HO2 := HO.out
      rw [List.take_of_length_le (by omega)] at HO2
      obtain ⟨a7, c7, hu7, h7⟩ := ents_of_own HO2
      subst hu7
      have HE7 := Lib.hid h7
      have HKL := Lib.hid (show (low.filter (kept15 high)).length ≤ 64 by
        have h1 := List.length_filter_le (kept15 high) low
        have := HL.out.1
        omega)
      have HKA := Lib.hid (show Asc (low.filter (kept15 high)) from HL.out.2.2.1.filter _)
      have HKS := Lib.hid (show ∀ e ∈ low.filter (kept15 high), e.1.size ≤ 54 from fun e he => HLS.out e (List.mem_filter.1 he).1)
      clear HO2 h7 HO
      have HFE := Lib.hid (show (high.take high.length).foldl (add15 low high) (low.filter (kept15 high)) = ref15 low high by rw [List.take_length]; rfl)
      obtain ⟨K, hK⟩ : ∃ K, low.filter (kept15 high) = K := ⟨_, rfl⟩
      rw [hK] at HE7 HKL HKA HKS HFE ⊢
      clear hK
      go_wp2
      go_loopg [7, 12] high.length (fun g v i wx => ∃ (k : Nat) (a5 : Option Addr) (c5 : Nat) (o : List Ent), v = .slice a5 o.length c5 ∧ i = .int .i64 (k : Int) ∧ k + g = high.length ∧ Hid (o = (high.take k).foldl (add15 low high) K) ∧ Hid (Ents wx a5 c5 o) ∧ Hid (Below w.heap.size w wx))
      case atStart => exact ⟨0, a7, c7, K, rfl, rfl, by omega, rfl, HE7.out, HB.out⟩
      case round =>
        clear HB HE7
        obtain ⟨k, a5, c5, o, rfl, rfl, hk, HO, HEO, HB⟩ := hrel
        have HOL := Lib.hid (show o.length ≤ 128 by
          have h1 := adds_len low high (high.take k) K
          rw [← HO.out, List.length_take] at h1
          have := HH.out.1
          have := HKL.out
          omega)
        by_cases hlt : k < high.length
        · have hlk' : (k : Int) < (high.length : Int) := by omega
          have hwk : IntKind.i64.wrap ((k : Int) + 1) = (k : Int) + 1 := IntWalk.i64_in _ (by have := HH.out.1; omega)
          have HOA := Lib.hid (show Asc o by rw [HO.out]; exact adds_asc low high _ _ HKA.out)
          have HOS := Lib.hid (show ∀ e ∈ o, e.1.size ≤ 54 by rw [HO.out]; exact adds_small15 low high _ _ (fun e he => HHS.out e (List.mem_of_mem_take he)) HKS.out)
          have HNX := Lib.hid (show (high.take (k + 1)).foldl (add15 low high) K = add15 low high o high[k] by rw [fold_step K hlt, ← HO.out])
          have HX := Lib.hid (HH.out.2.1 _ (List.getElem_mem hlt))
          have HOV := Lib.hid (show ovK high (pl high[k]) k = hid15 high (pl high[k]) from hid_take15 HH.out.2.2.1 hlt)
          obtain ⟨bq, oq, eq9, _, hcq⟩ := Ents.at HE2.out HB.out hlt
          obtain ⟨x, hx⟩ : ∃ x, high[k] = x := ⟨_, rfl⟩
          rw [hx] at HX HNX HOV hcq
          clear hx
          cases eq9
          have HXP := Lib.hid (rE_isP HX.out).1
          have HXS := Lib.hid (show x.1.size ≤ 54 by
            have := isP_len (rE_isP HX.out).1
            rwa [← Lib.size_eq] at this)
          have x0 := hcq.c0
          have x1 := hcq.c1
          have x2 := hcq.c2
          clear hcq
          go_wp2_with fail
          refine (refFind15 o a5 c5 x.1 _ HEO.out (by have := HOL.out; omega)).mono ?_
          rintro e w9 ⟨⟨n9, rfl, hn9⟩, rfl⟩
          rcases hn9 with ⟨h1, h2⟩ | ⟨rfl, h2⟩
          · have HAD := Lib.hid (show o = add15 low high o x by unfold add15; rw [if_pos h2])
            have h1' : n9 ≥ 0 := h1
            clear h2
            go_wp2
            go_roundg (high.length - (k + 1))
            case measure => omega
            case rel => exact ⟨k + 1, a5, c5, o, rfl, by simp, by omega, by rw [HNX.out]; exact HAD.out, HEO.out, HB.out⟩
          · have HAD := Lib.hid (show wth o (laid15 low high x) = add15 low high o x by
              unfold add15
              rw [if_neg (by rw [show fnd o (pl x) = none from h2]; simp)])
            clear h2
            obtain ⟨wa, hwa⟩ : ∃ wa, wa = wr := ⟨_, rfl⟩
            subst hwa
            have hb : Below wa.heap.size wa (wa.alloc (.cells #[.string x.1, .int .i64 x.2.1, .string x.2.2] 35)) := (Below.refl _ _).alloc (Nat.le_refl _) _
            have hq := enAt_new wa x.1 x.2.1 x.2.2
            obtain ⟨w1, hw1⟩ : ∃ w1, wa.alloc (.cells #[.string x.1, .int .i64 x.2.1, .string x.2.2] 35) = w1 := ⟨_, rfl⟩
            obtain ⟨M1, hM1⟩ : ∃ M1, wa.heap.size = M1 := ⟨_, rfl⟩
            have HM1 := Lib.hid (show w.heap.size ≤ M1 by rw [← hM1]; exact HB.out.size)
            have HMA := Lib.hid (Nat.le_of_eq hM1)
            rw [hw1] at hb hq
            rw [hM1] at hq
            have HBA := Lib.hid hb
            have HB1 := Lib.hid (HB.out.trans (hb.mono HB.out.size))
            have HEO1 := Lib.hid (HEO.out.below hb)
            have HQ := Lib.hid hq
            clear hb hq
            have y0 := HQ.out.c0
            have y1 := HQ.out.c1
            have y2 := HQ.out.c2
            go_wp2_with fail
            refine (refFind15 low a ca x.1 _ (HE.out.below HB1.out) (by have := HL.out.1; omega)).mono ?_
            rintro e w9 ⟨⟨n8, rfl, hn8⟩, rfl⟩
            have HN8 : Hid ((0 ≤ n8 ∧ (fnd low x.1.data.toList).isSome = true) ∨ (n8 = -1 ∧ fnd low x.1.data.toList = none)) := hn8
            clear hn8 x0 x1 x2 y0 y1 y2
            clear hw1 hM1
            go_wp2
            go_loopg [15, 16] k (fun g d i wx => ∃ m : Nat, d = .bool (ovK high (pl x) m) ∧ i = .int .i64 (m : Int) ∧ m + g = k ∧ Hid (Below w1.heap.size w1 wx))
            case atStart => exact ⟨0, rfl, rfl, by omega, Below.refl _ _⟩
            case round =>
              obtain ⟨m, rfl, rfl, hm, HBI⟩ := hrel
              have HW1 := Lib.hid (HB1.out.trans (HBI.out.mono HB1.out.size))
              have HQ1 := Lib.hid (HQ.out.below HBI.out)
              have x0 := HQ1.out.c0
              have x1 := HQ1.out.c1
              have x2 := HQ1.out.c2
              by_cases hlm : m < k
              · have hlm' : (m : Int) < (k : Int) := by omega
                have hlm2 : (m : Int) < (high.length : Int) := by omega
                have hlh : m < high.length := by omega
                have hwm : IntKind.i64.wrap ((m : Int) + 1) = (m : Int) + 1 := IntWalk.i64_in _ (by have := HH.out.1; omega)
                obtain ⟨bz, oz, e9, _, hc⟩ := Ents.at HE2.out HW1.out hlh
                have HST := Lib.hid (ovK_step (h := high) (pl x) hlh)
                have HZ := Lib.hid (HH.out.2.1 _ (List.getElem_mem hlh))
                obtain ⟨z, hz⟩ : ∃ z, high[m] = z := ⟨_, rfl⟩
                rw [hz] at hc HST HZ
                clear hz
                cases e9
                have z0 := hc.c0
                have z1 := hc.c1
                have z2 := hc.c2
                clear hc
                have HUZ := Lib.hid (show z.1.size ≤ 100000 by
                  have := isP_len (rE_isP HZ.out).1
                  rw [← Lib.size_eq] at this
                  omega)
                have HU0 : Hid (∀ w0 w', OldC w0 w' → Calls Tryd.prog 19 #[.string x.1, .string z.1] w' fun e w'' => e = .returned (.bool (upx (pl x) (pl z))) ∧ OldC w0 w'') := fun w0 w' hw' => by
                  refine (refUnd x.1 z.1 HUZ.out w').mono ?_
                  rintro e w'' ⟨rfl, rfl⟩
                  exact ⟨rfl, hw'⟩
                have hs := HST.out
                rw [← upx_und HXP.out (rE_isP HZ.out).1 (rE_isP HZ.out).2] at hs
                obtain ⟨uv, huv⟩ : ∃ uv, upx (pl x) (pl z) = uv := ⟨_, rfl⟩
                obtain ⟨hv, hhv⟩ : ∃ hv, ovK high (pl x) m = hv := ⟨_, rfl⟩
                rw [huv, hhv] at hs
                rw [huv] at HU0
                have HU := HU0
                rw [hhv]
                have ways : (hv = true ∧ ovK high (pl x) (m + 1) = true) ∨ (hv = false ∧ (z.2.1 != 2) = false ∧ ovK high (pl x) (m + 1) = false) ∨ (hv = false ∧ (z.2.1 != 2) = true ∧ ovK high (pl x) (m + 1) = uv) := by
                  rw [hs]
                  cases hv with
                  | true => exact .inl ⟨rfl, rfl⟩
                  | false =>
                    by_cases h1 : z.2.1 = 2
                    · exact .inr (.inl ⟨rfl, by rw [h1]; rfl, by simp [h1]⟩)
                    · exact .inr (.inr ⟨rfl, bne_iff_ne.2 h1, by simp [h1]⟩)
                clear huv hs hhv HST HU0
                rcases ways with ⟨rfl, hdn⟩ | ⟨rfl, g1, hdn⟩ | ⟨rfl, g1, hdn⟩
                all_goals
                  have HDN := Lib.hid hdn.symm
                  clear hdn
                  go_wp2_with fail
                  refine wp_region_old (by kernel_rfl) (by kernel_rfl) ?_
                  repeat (go_big_quiet_step ((first | (intro hw; with_reducible exact HU.out _ _ hw))))
                  refine wpQuiet_nil ?_
                  intro w3 hb
                  have HB3 := Lib.hid (show Below w1.heap.size w1 w3 from HBI.out.trans (Below.mono hb HBI.out.size))
                  clear hb x0 x1 x2 z0 z1 z2
                  go_wp2
                  go_roundg (k - (m + 1))
                  case measure => omega
                  case rel => exact ⟨m + 1, congrArg Value.bool HDN.out, by simp, by omega, HB3.out⟩
              · have hlm' : ¬ (m : Int) < (k : Int) := by omega
                have hme : m = k := by omega
                subst hme
                have HLD : Hid (laid15 low high x = if x.2.1 = 2 ∧ (fnd low (pl x)).isSome = true ∧ ovK high (pl x) m = false then (x.1, 4, x.2.2) else x) := by rw [HOV.out]; rfl
                obtain ⟨hv, hhv⟩ : ∃ hv, ovK high (pl x) m = hv := ⟨_, rfl⟩
                rw [hhv] at HLD ⊢
                clear hhv HOV
                have HEO2 := Lib.hid (HEO1.out.below HBI.out)
                have ways : (laid15 low high x = (x.1, 4, x.2.2) ∧ (x.2.1 == 2) = true ∧ n8 ≥ 0 ∧ hv = false) ∨ (laid15 low high x = x ∧ (x.2.1 == 2) = false) ∨ (laid15 low high x = x ∧ (x.2.1 == 2) = true ∧ n8 = -1) ∨ (laid15 low high x = x ∧ (x.2.1 == 2) = true ∧ n8 ≥ 0 ∧ hv = true) := by
                  rw [HLD.out]
                  by_cases h1 : x.2.1 = 2
                  · have h1' : (x.2.1 == 2) = true := by rw [h1]; rfl
                    rcases HN8.out with ⟨h2, h3⟩ | ⟨h2, h3⟩
                    · cases hv with
                      | true => exact .inr (.inr (.inr ⟨by rw [if_neg (by simp)], h1', h2, rfl⟩))
                      | false => exact .inl ⟨by rw [if_pos ⟨h1, h3, rfl⟩], h1', h2, rfl⟩
                    · exact .inr (.inr (.inl ⟨by rw [if_neg (by rw [show fnd low (pl x) = none from h3]; simp)], h1', h2⟩))
                  · exact .inr (.inl ⟨by rw [if_neg (by simp [h1])], beq_eq_false_iff_ne.2 h1⟩)
                clear HLD HN8
                rcases ways with ⟨hk9, g1, g2, rfl⟩ | ⟨hk9, g1⟩ | ⟨hk9, g1, rfl⟩ | ⟨hk9, g1, g2, rfl⟩
                · rw [hk9] at HAD
                  clear hk9
                  have xf1 := HQ1.out.f1
                  obtain ⟨U2, hU2, hu2, hb2, he2⟩ : ∃ U2, wr.setCell ⟨M1, 1, none⟩ (.int .i64 4) = U2 ∧ EnAt U2 M1 x.1 4 x.2.2 ∧ Below w.heap.size w U2 ∧ Ents U2 a5 c5 o := ⟨_, rfl, set_of8 HQ1.out 1 (.int .i64 4), HW1.out.setCell (p := ⟨M1, 1, none⟩) HM1.out _, HEO.out.below ((HBA.out.trans (HBI.out.mono HBA.out.size)).setCell (p := ⟨M1, 1, none⟩) HMA.out _)⟩
                  have HB2 := Lib.hid hb2
                  have HQ2 := Lib.hid hu2
                  have HEO3 := Lib.hid he2
                  clear hu2 hb2 he2
                  have t0 := HQ2.out.c0
                  have t1 := HQ2.out.c1
                  have t2 := HQ2.out.c2
                  go_wp2_with fail
                  refine (refWith9 o a5 c5 (x.1, 4, x.2.2) _ HEO3.out (by have := HOL.out; omega) HOA.out (fun y hy => by have := HOS.out y hy; omega) (by have := HXS.out; show x.1.size ≤ _; omega)).mono ?_
                  rintro e w8 ⟨a8, c8, rfl, h8, hb⟩
                  have HB8 := Lib.hid (HB2.out.trans (hb.mono HB2.out.size))
                  have HE8 := Lib.hid h8
                  rw [HAD.out] at HE8 ⊢
                  clear hb h8
                  go_wp2
                  go_roundg (high.length - (m + 1))
                  case measure => omega
                  case rel => exact ⟨m + 1, a8, c8, _, rfl, by simp, by omega, HNX.out.symm, HE8.out, HB8.out⟩
                all_goals
                  rw [hk9] at HAD
                  clear hk9
                  go_wp2_with fail
                  refine (refWith9 o a5 c5 x _ HEO2.out (by have := HOL.out; omega) HOA.out (fun y hy => by have := HOS.out y hy; omega) (by have := HXS.out; show x.1.size ≤ _; omega)).mono ?_
                  rintro e w8 ⟨a8, c8, rfl, h8, hb⟩
                  have HB8 := Lib.hid (HW1.out.trans (hb.mono HW1.out.size))
                  have HE8 := Lib.hid h8
                  rw [HAD.out] at HE8 ⊢
                  clear hb h8
                  go_wp2
                  go_roundg (high.length - (m + 1))
                  case measure => omega
                  case rel => exact ⟨m + 1, a8, c8, _, rfl, by simp, by omega, HNX.out.symm, HE8.out, HB8.out⟩
        · have hlt' : ¬ (k : Int) < (high.length : Int) := by omega
          have HV := Lib.hid (show o = ref15 low high by rw [HO.out, ← HFE.out, List.take_of_length_le (by omega), List.take_length])
          clear HO
          cases bot with
          | false =>
            have HV2 := Lib.hid (show o = two15 low high false by rw [HM.out, if_neg (by simp)]; exact HV.out)
            go_wp2
            go_ret
            exact ⟨a5, c5, by rw [← HV2.out]; rfl, by rw [← HV2.out]; exact HEO.out, HB.out⟩
          | true =>
            have HV2 := Lib.hid (show bot15 o = two15 low high true by rw [HM.out, if_pos rfl, HV.out])
            clear HV
            obtain ⟨wb, hwb⟩ : ∃ wb, wb = wr := ⟨_, rfl⟩
            subst hwb
            go_wp2
            go_loopg [17, 18] o.length (fun g v i wx => ∃ n : Nat, i = .int .i64 (n : Int) ∧ n + g = o.length ∧ Hid (OwnE wx wb.heap.size v (bot15 (o.take n))) ∧ Hid (Below wb.heap.size wb wx))
            case atStart => exact ⟨0, rfl, by omega, by simpa [Hid, bot15] using ownE_nil _ _, Below.refl _ _⟩
            case round =>
              obtain ⟨n, rfl, hn, HO, HBI⟩ := hrel
              by_cases hlt : n < o.length
              · have hlt' : (n : Int) < (o.length : Int) := by omega
                have hwn : IntKind.i64.wrap ((n : Int) + 1) = (n : Int) + 1 := IntWalk.i64_in _ (by have := HOL.out; omega)
                have HST := Lib.hid (bot_step hlt)
                obtain ⟨bq, oq, eq9, _, hcq⟩ := Ents.at HEO.out HBI.out hlt
                obtain ⟨x, hx⟩ : ∃ x, o[n] = x := ⟨_, rfl⟩
                rw [hx] at HST hcq
                clear hx
                cases eq9
                have x0 := hcq.c0
                have x1 := hcq.c1
                have x2 := hcq.c2
                clear hcq
                have HFL := Lib.hid (show (bot15 (o.take n)).length ≤ 1000 by
                  unfold bot15
                  rw [List.length_map]
                  have h1 := List.length_filter_le (fun e : Ent => decide (e.2.1 ≠ 3)) (o.take n)
                  rw [List.length_take] at h1
                  have := HOL.out
                  omega)
                have hb : Below wr.heap.size wr (wr.alloc (.cells #[.string x.1, .int .i64 x.2.1, .string x.2.2] 35)) := (Below.refl _ _).alloc (Nat.le_refl _) _
                have hq := enAt_new wr x.1 x.2.1 x.2.2
                obtain ⟨w1, hw1⟩ : ∃ w1, wr.alloc (.cells #[.string x.1, .int .i64 x.2.1, .string x.2.2] 35) = w1 := ⟨_, rfl⟩
                obtain ⟨M1, hM1⟩ : ∃ M1, wr.heap.size = M1 := ⟨_, rfl⟩
                have HM1 := Lib.hid (show wb.heap.size ≤ M1 by rw [← hM1]; exact HBI.out.size)
                have HM2 := Lib.hid (show ∀ k, u17.ownBlock = some k → k < M1 by rw [← hM1]; exact fun k hk => (ownE_blk HO.out k hk).2)
                rw [hw1] at hb hq
                rw [hM1] at hq
                have HB1 := Lib.hid (HBI.out.trans (hb.mono HBI.out.size))
                have HO1 := Lib.hid (HO.out.below hb)
                have HQ := Lib.hid hq
                clear hb hq
                have y0 := HQ.out.c0
                have y1 := HQ.out.c1
                have y2 := HQ.out.c2
                have yf1 := HQ.out.f1
                by_cases k4 : x.2.1 = 4
                · have g4 : (x.2.1 == 4) = true := by rw [k4]; rfl
                  have HFN := Lib.hid (show bot15 (o.take (n + 1)) = bot15 (o.take n) ++ [((x.1, 2, x.2.2) : Ent)] by
                    rw [HST.out]
                    unfold bt15
                    rw [if_neg (by omega), if_pos k4])
                  clear k4
                  obtain ⟨U2, hU2, hu2, hb2, ho2⟩ : ∃ U2, w1.setCell ⟨M1, 1, none⟩ (.int .i64 2) = U2 ∧ EnAt U2 M1 x.1 2 x.2.2 ∧ Below wb.heap.size wb U2 ∧ OwnE U2 wb.heap.size u17 (bot15 (o.take n)) := ⟨_, rfl, set_of8 HQ.out 1 (.int .i64 2), HB1.out.setCell (p := ⟨M1, 1, none⟩) HM1.out _, ownE_gen HO1.out fun k hk => Below.heap_setCell _ _ _ _ (by have := HM2.out k hk; show k ≠ M1; omega)⟩
                  have HB2 := Lib.hid hb2
                  have HQ2 := Lib.hid hu2
                  have HO2 := Lib.hid ho2
                  clear hu2 hb2 ho2
                  have t0 := HQ2.out.c0
                  have t1 := HQ2.out.c1
                  have t2 := HQ2.out.c2
                  go_wp2_with (at_builtin; refine Stopped.go ?_)
                  unfold Stopped
                  refine wl_putE (by rfl) _ _ (by rfl) wb.heap.size u17 _ (x.1, 2, x.2.2) (by rfl) (HO2.out.below ((Below.refl _ _).alloc (Nat.le_refl _) _)) (by have := HB2.out.size; simp; omega) U2.heap.size (by rfl) (enAt_new U2 x.1 2 x.2.2) HFL.out ?_
                  intro v6 w6 ho hg
                  have HB6 := Lib.hid ((HB2.out.alloc HB2.out.size (.cells #[.string x.1, .int .i64 2, .string x.2.2] 35)).grown hg (by have := HB2.out.size; simp; omega) (fun k hk => (ownE_blk HO2.out k hk).1))
                  have HO6 := Lib.hid ho
                  clear ho hg
                  go_wp2
                  go_roundg (o.length - (n + 1))
                  case measure => omega
                  case rel => exact ⟨n + 1, by simp, by omega, by rw [HFN.out]; exact HO6.out, HB6.out⟩
                · have g4 : (x.2.1 == 4) = false := beq_eq_false_iff_ne.2 k4
                  by_cases k3 : x.2.1 = 3
                  · have g3 : (x.2.1 != 3) = false := by rw [k3]; rfl
                    have HFN := Lib.hid (show bot15 (o.take (n + 1)) = bot15 (o.take n) by
                      rw [HST.out]
                      unfold bt15
                      rw [if_pos k3, List.append_nil])
                    clear k3 k4
                    go_wp2
                    go_roundg (o.length - (n + 1))
                    case measure => omega
                    case rel => exact ⟨n + 1, by simp, by omega, by rw [HFN.out]; exact HO1.out, HB1.out⟩
                  · have g3 : (x.2.1 != 3) = true := bne_iff_ne.2 k3
                    have HFN := Lib.hid (show bot15 (o.take (n + 1)) = bot15 (o.take n) ++ [x] by
                      rw [HST.out]
                      unfold bt15
                      rw [if_neg k3, if_neg k4])
                    clear k3 k4
                    go_wp2_with (at_builtin; refine Stopped.go ?_)
                    unfold Stopped
                    refine wl_putE (by rfl) _ _ (by rfl) wb.heap.size u17 _ x (by rfl) (HO1.out.below ((Below.refl _ _).alloc (Nat.le_refl _) _)) (by have := HB1.out.size; simp; omega) w1.heap.size (by rfl) (enAt_new w1 x.1 x.2.1 x.2.2) HFL.out ?_
                    intro v6 w6 ho hg
                    have HB6 := Lib.hid ((HB1.out.alloc HB1.out.size (.cells #[.string x.1, .int .i64 x.2.1, .string x.2.2] 35)).grown hg (by have := HB1.out.size; simp; omega) (fun k hk => (ownE_blk HO1.out k hk).1))
                    have HO6 := Lib.hid ho
                    clear ho hg
                    go_wp2
                    go_roundg (o.length - (n + 1))
                    case measure => omega
                    case rel => exact ⟨n + 1, by simp, by omega, by rw [HFN.out]; exact HO6.out, HB6.out⟩
              · have hlt' : ¬ (n : Int) < (o.length : Int) := by omega
                have HO2 := HO.out
                rw [List.take_of_length_le (by omega), HV2.out] at HO2
                obtain ⟨a9, c9, hu9, h9⟩ := ents_of_own HO2
                subst hu9
                have HE9 := Lib.hid h9
                clear HO2 h9
                go_wp2
                go_ret
                exact ⟨a9, c9, rfl, HE9.out, HB.out.trans (HBI.out.mono HB.out.size)⟩
end Go.Proofs.YtkclclhmeenncaaDoor
