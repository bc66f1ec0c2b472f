/-
  The contract of layer.Right. Conditions: the list lies in memory, has at most 1000 entries, its texts at most 100000 bytes.
-/
import Derived.Test.YthpobihpdomhoaaDoorS9House
import Derived.Test.YthpobihpdomhoaaDoorPc
import Derived.Test.YthpobihpdomhoaaDoorOldEn
import Derived.Test.YthpobihpdomhoaaDoorS9LastT
namespace Go.Proofs.YthpobihpdomhoaaDoor
open Go.RowKit

theorem rl_no {l : List Ent} {k : Nat} (h : ¬ RL (l.take (k + 1))) : decide (RightL l) = false := decide_eq_false fun hr => h (rl_take hr.2 _)
attribute [local go_sem ↓] old_ldi old_lds old_lde3
attribute [local go_sem] oldC_forall isC1_ptr isS1_ptr c1V_ptr isE3_ptr e3V_ptr
set_option maxRecDepth 10000 in
set_option maxHeartbeats 4000000 in
theorem right9 (l : List Ent) (a : Option Addr) (cap : Nat) (w : World) (h : Ents w a cap l) (hs : Sm l) : Calls Tryd.prog 20 #[.slice a l.length cap] w fun e w' => e = .returned (.bool (decide (RightL l))) ∧ Below w.heap.size w w' := by
  obtain ⟨R, hR⟩ : ∃ R, decide (RightL l) = R := ⟨_, rfl⟩
  rw [hR]
  have HR := Lib.hid hR
  clear hR
  by_cases h64 : l.length ≤ 64
  · have g64 : ¬ (64 : Int) < (l.length : Int) := by omega
    have HE := Lib.hid h
    have HS := Lib.hid hs
    have HL := Lib.hid h64
    have HCAP := Lib.hid h.1
    clear h hs
    go_enter Tryd.func20, Tryd.ntmps20
    go_wp2
    go_loopg [10] l.length (fun g i wx => ∃ k : Nat, i = .int .i64 (k : Int) ∧ k + g = l.length ∧ Hid (RL (l.take k)) ∧ Hid (Below w.heap.size w wx))
    case atStart => exact ⟨0, rfl, by omega, by simpa [Hid] using rl_nil, Below.refl _ _⟩
    case round =>
      obtain ⟨k, rfl, hk, HI, HB⟩ := hrel
      have hw : IntKind.i64.wrap ((k : Int) + 1) = (k : Int) + 1 := IntWalk.i64_in _ (by omega)
      by_cases hlt : k < l.length
      · have hlt' : (k : Int) < (l.length : Int) := by omega
        have hkc : (k : Int) ≤ (cap : Int) := by have := HCAP.out; omega
        obtain ⟨b, off, rfl, hb, hc⟩ := HE.out.at HB.out hlt
        have HEr := Lib.hid (RowN.below HE.out HB.out)
        have HT := Lib.hid (take_get l k hlt)
        have HZ := Lib.hid (HS.out.2 _ (List.getElem_mem hlt))
        have HLT := Lib.hid (fun j (hj : k = j + 1) => last_take9 hlt hj)
        have HNO := Lib.hid (fun h => rl_no (l := l) (k := k) h)
        obtain ⟨x, hx⟩ : ∃ x, l[k] = x := ⟨_, rfl⟩
        rw [hx] at hc HT HZ
        have HXK := Lib.hid hx
        have c0 := hc.c0
        have c1 := hc.c1
        have c2 := hc.c2
        obtain ⟨W, hW⟩ : ∃ W, wr.alloc (.cells #[.string x.1, .int .i64 x.2.1, .string x.2.2] 26) = W := ⟨_, rfl⟩
        obtain ⟨M, hM⟩ : ∃ M, wr.heap.size = M := ⟨_, rfl⟩
        have hbW : Below wr.heap.size wr W := by rw [← hW]; exact (Below.refl _ _).alloc (Nat.le_refl _) _
        have HBW := Lib.hid (HB.out.trans (hbW.mono HB.out.size))
        have HQ := Lib.hid (show EnAt W M x.1 x.2.1 x.2.2 by rw [← hW, ← hM]; exact enAt_new _ _ _ _)
        have HEW := Lib.hid (RowN.below HEr.out hbW)
        have q0 := HQ.out.c0
        have q1 := HQ.out.c1
        have q2 := HQ.out.c2
        have H1 : Hid (∀ w0 w', OldC w0 w' → Calls Tryd.prog 37 #[entV x.1 x.2.1 x.2.2] w' fun r w'' => r = .returned (.bool (rE x)) ∧ OldC w0 w'') := fun w0 w' hw' => by
          refine (right8 x.1 x.2.1 x.2.2 (by have := HZ.out; unfold maxLen; omega) w').mono ?_
          rintro r w'' ⟨rfl, hb⟩
          exact ⟨rfl, hw'.then hb⟩
        have H2 : Hid (∀ y : Ent, ∀ w0 w', OldC w0 w' → Calls Tryd.prog 38 #[entV y.1 y.2.1 y.2.2, entV x.1 x.2.1 x.2.2] w' fun r w'' => r = .returned (.bool (lt8 (pl y) (pl x))) ∧ OldC w0 w'') := fun y w0 w' hw' => by
          refine (less8 y.1 x.1 y.2.2 x.2.2 y.2.1 x.2.1 w').mono ?_
          rintro r w'' ⟨rfl, hb⟩
          exact ⟨rfl, hw'.then hb⟩
        clear hc hx hb hbW
        cases hv : rE x with
        | false =>
          rw [hv] at H1
          have HX := Lib.hid (show R = false by
            rw [← HR.out]
            refine HNO.out fun h => ?_
            rw [HT.out, rl_snoc, hv] at h
            cases h.2.1)
          clear hv
          go_wp2_with fail
          refine wp_region_old (by kernel_rfl) (by kernel_rfl) ?_
          repeat (go_big_quiet_step ((first | (intro hw; with_reducible exact H1.out _ _ hw))))
          refine wpQuiet_nil ?_
          intro w3 hw3
          have HB3 := Lib.hid (show Below w.heap.size w w3 from HBW.out.trans (Below.mono hw3 HBW.out.size))
          clear hw3
          go_wp2
          go_ret
          exact ⟨by rw [HX.out]; rfl, HB3.out⟩
        | true =>
          rw [hv] at H1
          have HVX := Lib.hid hv
          clear hv
          have called : (decide (0 < k) = false ∧ ∀ y, (l.take k).getLast? = some y → lt8 (pl y) (pl x) = true) ∨ (decide (0 < k) = true ∧ ∃ (j : Nat) (y : Ent), (k : Int) - 1 = (j : Int) ∧ (l.take k).getLast? = some y ∧ EnCells W b (off + j * 3) y ∧ (j : Int) < (l.length : Int)) := by
            by_cases h0 : 0 < k
            · refine .inr ⟨decide_eq_true h0, k - 1, l[k - 1]'(by omega), by omega, HLT.out (k - 1) (by omega), ?_, by omega⟩
              obtain ⟨b', off', e9, _, h9⟩ := Ents.at HEW.out (Below.refl _ _) (show k - 1 < l.length by omega)
              cases e9
              exact h9
            · refine .inl ⟨decide_eq_false h0, fun y hy => ?_⟩
              obtain rfl : k = 0 := by omega
              simp at hy
          rcases called with ⟨g0, hlast⟩ | ⟨g0, j, y, hj, hy, hcy, hjl⟩
          · have HLA := Lib.hid hlast
            clear hlast
            go_wp2_with fail
            refine wp_region_old (by kernel_rfl) (by kernel_rfl) ?_
            repeat (go_big_quiet_step ((first | (intro hw; with_reducible exact H1.out _ _ hw))))
            refine wpQuiet_nil ?_
            intro w3 hw3
            have HB3 := Lib.hid (show Below w.heap.size w w3 from HBW.out.trans (Below.mono hw3 HBW.out.size))
            have HQ3 := Lib.hid (HQ.out.below hw3)
            have HE3 := Lib.hid (RowN.below HEW.out hw3)
            clear hw3 q0 q1 q2 c0 c1 c2
            have q0 := HQ3.out.c0
            have q1 := HQ3.out.c1
            have q2 := HQ3.out.c2
            have H3 : Hid (∀ w', OldC w3 w' → Calls Tryd.prog 39 #[.slice (some ⟨b, off, none⟩) k cap, entV x.1 x.2.1 x.2.2] w' fun r w'' => r = .returned (.bool (decide (inD (l.take k) x))) ∧ OldC w3 w'') := fun w' hw' => by
              have hc := housed9 (l.take k) (some ⟨b, off, none⟩) cap x w' (Ents.take (RowN.below HE3.out hw') k) HI.out.2.1 (by rw [List.length_take]; omega) HVX.out
              rw [List.length_take, Nat.min_eq_left (by omega)] at hc
              refine hc.mono ?_
              rintro r w'' ⟨rfl, hb⟩
              exact ⟨rfl, hw'.then hb⟩
            by_cases hin : inD (l.take k) x
            · rw [decide_eq_true hin] at H3
              have HN := Lib.hid (show RL (l.take (k + 1)) by rw [HT.out, rl_snoc]; exact ⟨HI.out, HVX.out, HLA.out, hin⟩)
              clear hin
              go_wp2_with fail
              refine wp_region_old (by kernel_rfl) (by kernel_rfl) ?_
              repeat (go_big_quiet_step ((first | (intro hw; with_reducible exact H3.out _ hw))))
              refine wpQuiet_nil ?_
              intro w4 hw4
              have HB4 := Lib.hid (show Below w.heap.size w w4 from HB3.out.trans (Below.mono hw4 HB3.out.size))
              clear hw4
              go_wp2
              go_roundg (gk - 1)
              case measure => omega
              case rel => exact ⟨k + 1, by simp, by omega, HN.out, HB4.out⟩
            · rw [decide_eq_false hin] at H3
              have HX := Lib.hid (show R = false by
                rw [← HR.out]
                refine HNO.out fun h => ?_
                rw [HT.out, rl_snoc] at h
                exact hin h.2.2.2)
              clear hin
              go_wp2_with fail
              refine wp_region_old (by kernel_rfl) (by kernel_rfl) ?_
              repeat (go_big_quiet_step ((first | (intro hw; with_reducible exact H3.out _ hw))))
              refine wpQuiet_nil ?_
              intro w4 hw4
              have HB4 := Lib.hid (show Below w.heap.size w w4 from HB3.out.trans (Below.mono hw4 HB3.out.size))
              clear hw4
              go_wp2
              go_ret
              exact ⟨by rw [HX.out]; rfl, HB4.out⟩
          · have y0 := hcy.c0
            have y1 := hcy.c1
            have y2 := hcy.c2
            have HY := Lib.hid hy
            have hwj : IntKind.i64.wrap (j : Int) = (j : Int) := IntWalk.i64_in _ (by omega)
            clear hcy hy
            cases hv : lt8 (pl y) (pl x) with
            | false =>
              have H2y := Lib.hid (H2.out y)
              rw [hv] at H2y
              have HX := Lib.hid (show R = false by
                rw [← HR.out]
                refine HNO.out fun h => ?_
                rw [HT.out, rl_snoc] at h
                have := h.2.2.1 y HY.out
                rw [hv] at this
                cases this)
              clear hv
              go_wp2_with fail
              refine wp_region_old (by kernel_rfl) (by kernel_rfl) ?_
              repeat (go_big_quiet_step ((first | (intro hw; with_reducible exact H1.out _ _ hw) | (intro hw; with_reducible exact H2y.out _ _ hw))))
              refine wpQuiet_nil ?_
              intro w3 hw3
              have HB3 := Lib.hid (show Below w.heap.size w w3 from HBW.out.trans (Below.mono hw3 HBW.out.size))
              clear hw3
              go_wp2
              go_ret
              exact ⟨by rw [HX.out]; rfl, HB3.out⟩
            | true =>
              have H2y := Lib.hid (H2.out y)
              rw [hv] at H2y
              have HLA := Lib.hid (show ∀ z, (l.take k).getLast? = some z → lt8 (pl z) (pl x) = true from fun z hz => by
                have := HY.out.symm.trans hz
                cases this
                exact hv)
              clear hv
              go_wp2_with fail
              refine wp_region_old (by kernel_rfl) (by kernel_rfl) ?_
              repeat (go_big_quiet_step ((first | (intro hw; with_reducible exact H1.out _ _ hw) | (intro hw; with_reducible exact H2y.out _ _ hw))))
              refine wpQuiet_nil ?_
              intro w3 hw3
              have HB3 := Lib.hid (show Below w.heap.size w w3 from HBW.out.trans (Below.mono hw3 HBW.out.size))
              clear y0 y1 y2
              have HQ3 := Lib.hid (HQ.out.below hw3)
              have HE3 := Lib.hid (RowN.below HEW.out hw3)
              clear hw3 q0 q1 q2 c0 c1 c2
              have q0 := HQ3.out.c0
              have q1 := HQ3.out.c1
              have q2 := HQ3.out.c2
              have H3 : Hid (∀ w', OldC w3 w' → Calls Tryd.prog 39 #[.slice (some ⟨b, off, none⟩) k cap, entV x.1 x.2.1 x.2.2] w' fun r w'' => r = .returned (.bool (decide (inD (l.take k) x))) ∧ OldC w3 w'') := fun w' hw' => by
                have hc := housed9 (l.take k) (some ⟨b, off, none⟩) cap x w' (Ents.take (RowN.below HE3.out hw') k) HI.out.2.1 (by rw [List.length_take]; omega) HVX.out
                rw [List.length_take, Nat.min_eq_left (by omega)] at hc
                refine hc.mono ?_
                rintro r w'' ⟨rfl, hb⟩
                exact ⟨rfl, hw'.then hb⟩
              by_cases hin : inD (l.take k) x
              · rw [decide_eq_true hin] at H3
                have HN := Lib.hid (show RL (l.take (k + 1)) by rw [HT.out, rl_snoc]; exact ⟨HI.out, HVX.out, HLA.out, hin⟩)
                clear hin
                go_wp2_with fail
                refine wp_region_old (by kernel_rfl) (by kernel_rfl) ?_
                repeat (go_big_quiet_step ((first | (intro hw; with_reducible exact H3.out _ hw))))
                refine wpQuiet_nil ?_
                intro w4 hw4
                have HB4 := Lib.hid (show Below w.heap.size w w4 from HB3.out.trans (Below.mono hw4 HB3.out.size))
                clear hw4
                go_wp2
                go_roundg (gk - 1)
                case measure => omega
                case rel => exact ⟨k + 1, by simp, by omega, HN.out, HB4.out⟩
              · rw [decide_eq_false hin] at H3
                have HX := Lib.hid (show R = false by
                  rw [← HR.out]
                  refine HNO.out fun h => ?_
                  rw [HT.out, rl_snoc] at h
                  exact hin h.2.2.2)
                clear hin
                go_wp2_with fail
                refine wp_region_old (by kernel_rfl) (by kernel_rfl) ?_
                repeat (go_big_quiet_step ((first | (intro hw; with_reducible exact H3.out _ hw))))
                refine wpQuiet_nil ?_
                intro w4 hw4
                have HB4 := Lib.hid (show Below w.heap.size w w4 from HB3.out.trans (Below.mono hw4 HB3.out.size))
                clear hw4
                go_wp2
                go_ret
                exact ⟨by rw [HX.out]; rfl, HB4.out⟩
      · have hlt' : ¬ (k : Int) < (l.length : Int) := by omega
        have HX := Lib.hid (show R = true by
          rw [← HR.out]
          have := HI.out
          rw [List.take_of_length_le (by omega)] at this
          exact decide_eq_true ⟨HL.out, this⟩)
        go_wp2
        go_ret
        exact ⟨by rw [HX.out]; rfl, HB.out⟩
  · have g64 : (64 : Int) < (l.length : Int) := by omega
    have HX := Lib.hid (show R = false by rw [← HR.out]; exact decide_eq_false fun h => h64 h.1)
    clear h hs h64
    go_enter Tryd.func20, Tryd.ntmps20
    go_wp2
    go_ret
    exact ⟨by rw [HX.out]; rfl, Below.refl _ _⟩
end Go.Proofs.YthpobihpdomhoaaDoor
