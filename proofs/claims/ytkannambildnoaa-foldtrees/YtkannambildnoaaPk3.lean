/-
  Contracts of the helpers of layer 9's statements: Size and Same of lists of entries. Condition: the lists lie in memory.
  The contract of the document's own Right of a layer (package shaleref09). Condition: the list lies in memory, has at most 1000 entries, their paths at most 100000 bytes.
  The contract of the document's own Tree of a list (package shaleref10). Condition: the list lies in memory, has at most 2000 entries, their paths at most 100000 bytes.
  Contracts of the document's own With and Without (package shaleref09): a rising list with an entry, and without one. Conditions: the list lies in memory, has at most 900 entries; With: its paths rise, and have at most 100000 bytes.
-/
import Derived.Test.YtkannambildnoaaPk2
import Derived.Deep.LoopGhost
import Derived.Lib.Hide
import Derived.IntWalk
import Derived.BigQuiet
namespace Go.Proofs.Ytkannambildnoaa
open Go.RowKit

/-- A list of entries of a size that is looked at. -/
def SizeOK (l : List Ent) : Prop := l.length ≤ 70 ∧ ∀ e ∈ l, e.1.size ≤ 100 ∧ e.2.2.size ≤ 600
instance (l : List Ent) : Decidable (SizeOK l) := inferInstanceAs (Decidable (_ ∧ _))
def okE (e : Ent) : Prop := e.1.size ≤ 100 ∧ e.2.2.size ≤ 600
theorem take_get {α : Type} (l : List α) (k : Nat) (h : k < l.length) : l.take (k + 1) = l.take k ++ [l[k]] := by
  rw [List.take_add_one, List.getElem?_eq_getElem h]
  rfl
set_option maxRecDepth 10000 in
set_option maxHeartbeats 1000000 in
theorem size9 (l : List Ent) (a : Option Addr) (cap : Nat) (w : World) (h : Ents w a cap l) : Calls Try.prog 11 #[.slice a l.length cap] w fun e w' => e = .returned (.int .i64 (if SizeOK l then 1 else 0)) ∧ w = w' := by
  obtain ⟨R, hR⟩ : ∃ R : Int, (if SizeOK l then 1 else 0) = R := ⟨_, rfl⟩
  rw [hR]
  have HR := Lib.hid hR
  clear hR
  by_cases h70 : l.length ≤ 70
  · have HE := Lib.hid h
    have HL := Lib.hid h70
    have g70 : ¬ (70 : Int) < (l.length : Int) := by omega
    clear h
    go_enter Try.func11, Try.ntmps11
    go_wp2
    go_loopg [3] l.length (fun g i wx => ∃ k : Nat, i = .int .i64 (k : Int) ∧ k + g = l.length ∧ Hid (∀ e ∈ l.take k, okE e) ∧ w = wx)
    case atStart => exact ⟨0, rfl, by omega, by intro e he; simp at he, rfl⟩
    case round =>
      obtain ⟨k, rfl, hk, HI, rfl⟩ := hrel
      by_cases hlt : k < l.length
      · have hlt' : (k : Int) < (l.length : Int) := by omega
        obtain ⟨b, off, rfl, hb, hc⟩ := HE.out.at (Below.refl _ _) hlt
        have HT := Lib.hid (take_get l k hlt)
        have HM := Lib.hid (List.getElem_mem hlt)
        obtain ⟨x, hx⟩ : ∃ x, l[k] = x := ⟨_, rfl⟩
        rw [hx] at hc HT HM
        have c0 := hc.c0
        have c2 := hc.c2
        clear hc hx hb
        by_cases g1 : x.1.size ≤ 100
        · have g1' : ¬ (100 : Int) < (x.1.size : Int) := by omega
          by_cases g2 : x.2.2.size ≤ 600
          · have g2' : ¬ (600 : Int) < (x.2.2.size : Int) := by omega
            have HX := Lib.hid (show okE x from ⟨g1, g2⟩)
            clear g1 g2
            go_wp2
            go_roundg (gk - 1)
            case measure => omega
            case rel =>
              refine ⟨k + 1, by simp, by omega, ?_, rfl⟩
              intro e he
              rw [HT.out] at he
              rcases List.mem_append.1 he with he | he
              · exact HI.out e he
              · obtain rfl : e = x := by simpa using he
                exact HX.out
          · have g2' : (600 : Int) < (x.2.2.size : Int) := by omega
            have HX := Lib.hid (show R = 0 by rw [← HR.out, if_neg fun h => g2 (h.2 x HM.out).2])
            clear g1 g2
            go_wp2
            go_ret
            exact ⟨by rw [HX.out]; rfl, rfl⟩
        · have g1' : (100 : Int) < (x.1.size : Int) := by omega
          have HX := Lib.hid (show R = 0 by rw [← HR.out, if_neg fun h => g1 (h.2 x HM.out).1])
          clear g1
          go_wp2
          go_ret
          exact ⟨by rw [HX.out]; rfl, rfl⟩
      · have hlt' : ¬ (k : Int) < (l.length : Int) := by omega
        have HX := Lib.hid (show R = 1 by rw [← HR.out, if_pos ⟨HL.out, fun e he => HI.out e (by rw [List.take_of_length_le (by omega)]; exact he)⟩])
        go_wp2
        go_ret
        exact ⟨by rw [HX.out]; rfl, rfl⟩
  · have g70 : (70 : Int) < (l.length : Int) := by omega
    have HX := Lib.hid (show R = 0 by rw [← HR.out, if_neg fun h => h70 h.1])
    clear h h70
    go_enter Try.func11, Try.ntmps11
    go_wp2
    go_ret
    exact ⟨by rw [HX.out]; rfl, rfl⟩
attribute [local go_sem ↓] qne_en qeq_en
attribute [local go_sem] isEv_agg evEq_agg eta_ent
theorem take_eq {α : Type} (l m : List α) (k : Nat) (h : k < l.length) (h2 : k < m.length) : l.take (k + 1) = m.take (k + 1) ↔ l.take k = m.take k ∧ l[k] = m[k] := by
  rw [take_get l k h, take_get m k h2]
  constructor
  · intro e
    obtain ⟨e1, e2⟩ := List.append_inj' e rfl
    exact ⟨e1, by simpa using e2⟩
  · rintro ⟨e1, e2⟩
    rw [e1, e2]
set_option maxRecDepth 10000 in
set_option maxHeartbeats 1000000 in
theorem same9 (l m : List Ent) (a a2 : Option Addr) (cap cap2 : Nat) (w : World) (h : Ents w a cap l) (h2 : Ents w a2 cap2 m) (hz : l.length ≤ maxLen) : Calls Try.prog 16 #[.slice a l.length cap, .slice a2 m.length cap2] w fun e w' => e = .returned (.int .i64 (if l = m then 1 else 0)) ∧ Below w.heap.size w w' := by
  obtain ⟨R, hR⟩ : ∃ R : Int, (if l = m then 1 else 0) = R := ⟨_, rfl⟩
  rw [hR]
  have HR := Lib.hid hR
  clear hR
  by_cases hl : l.length = m.length
  · have HE := Lib.hid h
    have HE2 := Lib.hid h2
    have HL := Lib.hid hl
    have HZ := Lib.hid hz
    have gl : ((l.length : Int) != (m.length : Int)) = false := by rw [hl]; simp
    clear h h2 hl hz
    go_enter Try.func16, Try.ntmps16
    go_wp2
    go_loopg [5] l.length (fun g i wx => ∃ k : Nat, i = .int .i64 (k : Int) ∧ k + g = l.length ∧ Hid (l.take k = m.take k) ∧ Hid (Below w.heap.size w wx))
    case atStart => exact ⟨0, rfl, by omega, by simp [Hid], Below.refl _ _⟩
    case round =>
      obtain ⟨k, rfl, hk, HI, HB⟩ := hrel
      by_cases hlt : k < l.length
      · have hlt' : (k : Int) < (l.length : Int) := by omega
        have hlt2 : (k : Int) < (m.length : Int) := by have := HL.out; omega
        obtain ⟨b, off, rfl, hb, hc⟩ := HE.out.at HB.out hlt
        obtain ⟨b2, off2, rfl, hb2, hc2⟩ := HE2.out.at HB.out (show k < m.length by omega)
        have HT := Lib.hid (take_eq l m k hlt (by omega))
        have hw : IntKind.i64.wrap ((k : Int) + 1) = (k : Int) + 1 := IntWalk.i64_in _ (by have := HZ.out; unfold maxLen at this; omega)
        obtain ⟨x, hx⟩ : ∃ x, l[k] = x := ⟨_, rfl⟩
        obtain ⟨y, hy⟩ : ∃ y, m[k]'(by omega) = y := ⟨_, rfl⟩
        rw [hx] at hc
        rw [hy] at hc2
        have HXY := Lib.hid (And.intro hx hy)
        have c0 := hc.c0
        have c1 := hc.c1
        have c2 := hc.c2
        have d0 := hc2.c0
        have d1 := hc2.c1
        have d2 := hc2.c2
        clear hc hc2 hx hy hb hb2
        by_cases hxy : x = y
        · have gxy : decide (x = y) = true := decide_eq_true hxy
          have HN := Lib.hid (show l.take (k + 1) = m.take (k + 1) from HT.out.2 ⟨HI.out, by rw [HXY.out.1, HXY.out.2]; exact hxy⟩)
          clear hxy
          go_wp2
          go_quiet (fail)
          go_wp2
          go_roundg (gk - 1)
          case measure => omega
          case rel => exact ⟨k + 1, by simp, by omega, HN.out, below_drewX HB.out _⟩
        · have gxy : decide (x = y) = false := decide_eq_false hxy
          have HX := Lib.hid (show R = 0 by
            rw [← HR.out, if_neg fun e => hxy ?_]
            subst e
            exact HXY.out.1.symm.trans HXY.out.2)
          clear hxy
          go_wp2
          go_quiet (fail)
          go_wp2
          go_ret
          exact ⟨by rw [HX.out]; rfl, below_drewX HB.out _⟩
      · have hlt' : ¬ (k : Int) < (l.length : Int) := by omega
        have HX := Lib.hid (show R = 1 by
          have := HI.out
          rw [List.take_of_length_le (by omega), List.take_of_length_le (by have := HL.out; omega)] at this
          rw [← HR.out, if_pos this])
        go_wp2
        go_ret
        exact ⟨by rw [HX.out]; rfl, HB.out⟩
  · have gl : ((l.length : Int) != (m.length : Int)) = true := by rw [bne_iff_ne]; omega
    have HX := Lib.hid (show R = 0 by rw [← HR.out, if_neg fun h => hl (by rw [h])])
    clear h h2 hl hz
    go_enter Try.func16, Try.ntmps16
    go_wp2
    go_ret
    exact ⟨by rw [HX.out]; rfl, Below.refl _ _⟩
end Go.Proofs.Ytkannambildnoaa

namespace Go.Proofs.Ytkannambildnoaa
open Go.RowKit

theorem inD_take (l : List Ent) (e : Ent) (j : Nat) (h : j < l.length) : inD (l.take (j + 1)) e ↔ inD (l.take j) e ∨ (pl l[j] = par9 (pl e) ∧ hd l[j] = true) := by
  rw [take_get l j h]
  unfold inD
  simp only [List.mem_append, List.mem_singleton]
  constructor
  · rintro (h1 | ⟨d, h1 | rfl, h2⟩)
    · exact .inl (.inl h1)
    · exact .inl (.inr ⟨d, h1, h2⟩)
    · exact .inr h2
  · rintro ((h1 | ⟨d, h1, h2⟩) | h2)
    · exact .inl h1
    · exact .inr ⟨d, .inl h1, h2⟩
    · exact .inr ⟨_, .inr rfl, h2⟩
theorem last_take (l : List Ent) (k : Nat) (h : k < l.length) (h0 : 0 < k) : (l.take k).getLast? = some (l[k - 1]'(by omega)) := by
  rw [List.getLast?_eq_getElem?, List.length_take, Nat.min_eq_left (by omega), List.getElem?_take_of_lt (by omega), List.getElem?_eq_getElem]
attribute [local go_sem ↓] old_ldi old_lds old_lde3
attribute [local go_sem] oldC_forall isC1_ptr isS1_ptr c1V_ptr isE3_ptr e3V_ptr
set_option maxRecDepth 10000 in
set_option maxHeartbeats 4000000 in
theorem refRight9 (l : List Ent) (a : Option Addr) (cap : Nat) (w : World) (h : Ents w a cap l) (hl : l.length ≤ 1000) (hz : ∀ e ∈ l, e.1.size ≤ 100000) : Calls Try.prog 18 #[.slice a l.length cap] w fun e w' => e = .returned (.bool (decide (RightL l))) ∧ Below w.heap.size w w' := by
  obtain ⟨R, hR⟩ : ∃ R, decide (RightL l) = R := ⟨_, rfl⟩
  rw [hR]
  have HR := Lib.hid hR
  have HE := Lib.hid h
  have HL := Lib.hid hl
  have HZ := Lib.hid hz
  clear hR h hl hz
  go_enter Try.func18, Try.ntmps18
  go_wp2
  go_loopg [3] l.length (fun g i wx => ∃ k : Nat, i = .int .i64 (k : Int) ∧ k + g = l.length ∧ Hid (RL (l.take k)) ∧ Hid (Below w.heap.size w wx))
  case atStart => exact ⟨0, rfl, by omega, by simpa [Hid] using rl_nil, Below.refl _ _⟩
  case round =>
    obtain ⟨k, rfl, hk, HI, HB⟩ := hrel
    by_cases hlt : k < l.length
    · have hlt' : (k : Int) < (l.length : Int) := by omega
      obtain ⟨b, off, rfl, hb, hc⟩ := HE.out.at HB.out hlt
      have HT := Lib.hid (show l.take (k + 1) = l.take k ++ [l[k]] from take_get l k hlt)
      have HX := Lib.hid (HZ.out _ (List.getElem_mem hlt))
      obtain ⟨x, hx⟩ : ∃ x, l[k] = x := ⟨_, rfl⟩
      rw [hx] at hc HT HX
      have HXK := Lib.hid hx
      have c0 := hc.c0
      have c1 := hc.c1
      have c2 := hc.c2
      have H1 : Hid (∀ w0 w', OldC w0 w' → Calls Try.prog 29 #[enV x] w' fun e w'' => e = .returned (.bool (rE x)) ∧ OldC w0 w'') := fun w0 w' hw' => by
        refine (refRight_any x.1 x.2.1 x.2.2 HX.out w').mono ?_
        rintro e w'' ⟨rfl, hb⟩
        exact ⟨rfl, hw'.then hb⟩
      clear hc hx hb
      obtain ⟨v, hv⟩ : ∃ v, rE x = v := ⟨_, rfl⟩
      rw [hv] at H1
      have HRV := Lib.hid hv
      clear hv
      have bad : ∀ (P : Prop), (RL (l.take (k + 1)) → False) → R = false := fun _ h => by
        rw [← HR.out, decide_eq_false]
        exact fun h2 => h (rl_take h2.2 _)
      have HBad := Lib.hid bad
      clear bad
      cases v with
      | false =>
        have HV := Lib.hid (show R = false from HBad.out True fun h => by
          rw [HT.out, rl_snoc] at h
          have := h.2.1
          rw [HRV.out] at this
          cases this)
        go_wp2_with fail
        refine wp_region_old (by kernel_rfl) (by kernel_rfl) ?_
        repeat (go_big_quiet_step ((first | (intro hw; with_reducible exact H1.out _ _ hw))))
        refine wpQuiet_nil ?_
        intro w9 hw9
        have HB9 := Lib.hid (show Below w.heap.size w w9 from HB.out.trans (Below.mono hw9 HB.out.size))
        clear hw9
        go_wp2
        go_ret
        exact ⟨by rw [HV.out]; rfl, HB9.out⟩
      | true =>
        have H3 : Hid (∀ w0 w', OldC w0 w' → Calls Try.prog 31 #[.string x.1] w' fun e w'' => e = .returned (.string (bs (par9 (pl x)))) ∧ OldC w0 w'') := fun w0 w' hw' => by
          obtain ⟨p1, p2⟩ := rE_isP HRV.out
          refine (refPar9 x.1 p1 p2 w').mono ?_
          rintro e w'' ⟨rfl, hb⟩
          exact ⟨rfl, hw'.then hb⟩
        obtain ⟨q, hq⟩ : ∃ q, bs (par9 (pl x)) = q := ⟨_, rfl⟩
        rw [hq] at H3
        have HQ := Lib.hid (show q.data.toList = par9 (pl x) by rw [← hq, bs_list])
        clear hq
        have way : (∃ k' y, Hid (k' + 1 = k) ∧ IntKind.i64.wrap ((k : Int) - 1) = (k' : Int) ∧ decide (0 < k) = true ∧ (k' : Int) < (l.length : Int) ∧ EnCells wr b (off + k' * 3) y ∧ Hid (∀ a, (l.take k).getLast? = some a ↔ a = y) ∧ Hid (y.1.size ≤ 100000)) ∨ (decide (0 < k) = false ∧ Hid ((l.take k).getLast? = none)) := by
          by_cases h0 : 0 < k
          · left
            have hk1 : k - 1 < l.length := by omega
            obtain ⟨b', off', e1, _, hc'⟩ := HE.out.at HB.out hk1
            cases e1
            refine ⟨k - 1, l[k - 1], by show k - 1 + 1 = k; omega, ?_, decide_eq_true h0, by omega, hc', fun a => ?_, HZ.out _ (List.getElem_mem hk1)⟩
            · rw [show (k : Int) - 1 = ((k - 1 : Nat) : Int) by omega]
              exact IntWalk.i64_in _ (by have := HL.out; omega)
            · rw [last_take l k hlt h0]
              simp [eq_comm]
          · right
            have : k = 0 := by omega
            subst this
            exact ⟨rfl, by simp [Hid]⟩
        rcases way with ⟨k', y, HK1, hwk, h0, hk'l, hcy, HLA, HYZ⟩ | ⟨h0, HLA⟩
        · have d0 := hcy.c0
          have H2 : Hid (∀ w0 w', OldC w0 w' → Calls Try.prog 30 #[.string y.1, .string x.1] w' fun e w'' => e = .returned (.bool (lt8 (pl y) (pl x))) ∧ OldC w0 w'') := fun w0 w' hw' => by
            refine (refLess_any y.1 x.1 HYZ.out HX.out w').mono ?_
            rintro e w'' ⟨rfl, hb⟩
            exact ⟨rfl, hw'.then hb⟩
          obtain ⟨v2, hv2⟩ : ∃ v2, lt8 (pl y) (pl x) = v2 := ⟨_, rfl⟩
          rw [hv2] at H2
          have HRV2 := Lib.hid hv2
          clear hv2 hcy
          cases v2 with
          | false =>
            have HV := Lib.hid (show R = false from HBad.out True fun h => by
              rw [HT.out, rl_snoc] at h
              have := h.2.2.1 y ((HLA.out y).2 rfl)
              rw [HRV2.out] at this
              cases this)
            go_wp2_with fail
            refine wp_region_old (by kernel_rfl) (by kernel_rfl) ?_
            repeat (go_big_quiet_step ((first | (intro hw; with_reducible exact H1.out _ _ hw) | (intro hw; with_reducible exact H2.out _ _ hw))))
            refine wpQuiet_nil ?_
            intro w9 hw9
            have HB9 := Lib.hid (show Below w.heap.size w w9 from HB.out.trans (Below.mono hw9 HB.out.size))
            clear hw9
            go_wp2
            go_ret
            exact ⟨by rw [HV.out]; rfl, HB9.out⟩
          | true =>
            have HA := Lib.hid (show ∀ a, (l.take k).getLast? = some a → lt8 (pl a) (pl x) = true from fun a ha => by
              rw [HLA.out] at ha
              rw [ha]
              exact HRV2.out)
            go_wp2_with fail
            refine wp_region_old (by kernel_rfl) (by kernel_rfl) ?_
            repeat (go_big_quiet_step ((first | (intro hw; with_reducible exact H1.out _ _ hw) | (intro hw; with_reducible exact H2.out _ _ hw))))
            refine wpQuiet_nil ?_
            intro w9 hw9
            have HB9 := Lib.hid (show Below w.heap.size w w9 from HB.out.trans (Below.mono hw9 HB.out.size))
            have hcx := HE.out.at HB9.out hlt
            rw [HXK.out] at hcx
            obtain ⟨b', off', e1, _, hcx⟩ := hcx
            cases e1
            have x0 := hcx.c0
            clear hw9 hcx c0 c1 c2
            go_wp2_with fail
            refine (H3.out _ _ (OldC.self _)).mono ?_
            rintro e w3 ⟨rfl, hb3⟩
            have HB3 := Lib.hid (show Below w.heap.size w w3 from HB9.out.trans (Below.mono hb3 HB9.out.size))
            have HF0 := Lib.hid (show (q.toList == [47]) = decide (inD (l.take 0) x) by
              rw [eq_slash, HQ.out]
              unfold inD
              simp)
            clear hb3 x0
            go_wp2
            go_loopg [4, 5] k (fun g f i wx => ∃ (j : Nat) (z : Bool), f = .bool z ∧ i = .int .i64 (j : Int) ∧ j + g = k ∧ Hid (z = decide (inD (l.take j) x)) ∧ Hid (Below w.heap.size w wx))
            case atStart => exact ⟨0, _, rfl, rfl, by omega, HF0.out, HB3.out⟩
            case round =>
              obtain ⟨j, z, rfl, rfl, hj, HF, HBJ⟩ := hrel
              by_cases hjk : j < k
              · have hjk' : (j : Int) < (k : Int) := by omega
                have hjl : j < l.length := by omega
                have hjl' : (j : Int) < (l.length : Int) := by omega
                have hwj : IntKind.i64.wrap ((j : Int) + 1) = (j : Int) + 1 := IntWalk.i64_in _ (by have := HL.out; omega)
                have HIN := Lib.hid (inD_take l x j hjl)
                have hcx := HE.out.at HBJ.out hlt
                have hcy := HE.out.at HBJ.out hjl
                rw [HXK.out] at hcx
                obtain ⟨u, hu⟩ : ∃ u, l[j] = u := ⟨_, rfl⟩
                rw [hu] at hcy HIN
                obtain ⟨b', off', e1, _, hcx⟩ := hcx
                cases e1
                obtain ⟨b', off', e1, _, hcy⟩ := hcy
                cases e1
                have x0 := hcx.c0
                have u0 := hcy.c0
                have u1 := hcy.c1
                clear hcx hcy hu
                have ways : ∃ z', Hid (z' = decide (inD (l.take (j + 1)) x)) ∧ ((z = true ∧ z' = true) ∨ (z = false ∧ (u.1.toList == q.toList) = false ∧ z' = false) ∨ (z = false ∧ (u.1.toList == q.toList) = true ∧ (u.2.1 == 2) = true ∧ z' = true) ∨ (z = false ∧ (u.1.toList == q.toList) = true ∧ (u.2.1 == 2) = false ∧ (u.2.1 == 4) = true ∧ z' = true) ∨ (z = false ∧ (u.1.toList == q.toList) = true ∧ (u.2.1 == 2) = false ∧ (u.2.1 == 4) = false ∧ z' = false)) := by
                  have hq2 : (u.1.toList == q.toList) = decide (pl u = par9 (pl x)) := by rw [Lib.toList_data, Lib.toList_data, HQ.out, Bool.eq_iff_iff, beq_iff_eq, decide_eq_true_iff]
                  have hz2 : decide (inD (l.take (j + 1)) x) = (z || (decide (pl u = par9 (pl x)) && hd u)) := by
                    rw [Bool.eq_iff_iff, decide_eq_true_iff, HIN.out, Bool.or_eq_true, HF.out, decide_eq_true_iff, Bool.and_eq_true, decide_eq_true_iff]
                  refine ⟨_, rfl, ?_⟩
                  rw [hz2, hq2]
                  unfold hd
                  cases z with
                  | true => exact .inl ⟨rfl, rfl⟩
                  | false =>
                    cases decide (pl u = par9 (pl x)) with
                    | false => exact .inr (.inl ⟨rfl, rfl, rfl⟩)
                    | true =>
                      cases (u.2.1 == 2) with
                      | true => exact .inr (.inr (.inl ⟨rfl, rfl, rfl, rfl⟩))
                      | false =>
                        cases (u.2.1 == 4) with
                        | true => exact .inr (.inr (.inr (.inl ⟨rfl, rfl, rfl, rfl, rfl⟩)))
                        | false => exact .inr (.inr (.inr (.inr ⟨rfl, rfl, rfl, rfl, rfl⟩)))
                obtain ⟨z', HZ', ways⟩ := ways
                clear HIN HF
                rcases ways with ⟨rfl, rfl⟩ | ⟨rfl, s1, rfl⟩ | ⟨rfl, s1, s2, rfl⟩ | ⟨rfl, s1, s2, s3, rfl⟩ | ⟨rfl, s1, s2, s3, rfl⟩
                all_goals
                  go_wp2_with fail
                  refine wp_region_old (by kernel_rfl) (by kernel_rfl) ?_
                  repeat (go_big_quiet_step ((first | (intro hw; with_reducible exact H3.out _ _ hw))))
                  refine wpQuiet_nil ?_
                  intro w8 hw8
                  have HB8 := Lib.hid (show Below w.heap.size w w8 from HBJ.out.trans (Below.mono hw8 HBJ.out.size))
                  clear hw8
                  go_wp2
                  go_roundg (k - (j + 1))
                  case measure => omega
                  case rel => exact ⟨j + 1, _, rfl, by simp, by omega, HZ'.out, HB8.out⟩
              · have hjk' : ¬ (j : Int) < (k : Int) := by omega
                have e : j = k := by omega
                subst e
                cases z with
                | true =>
                  have HN := Lib.hid (show RL (l.take (j + 1)) by
                    rw [HT.out, rl_snoc]
                    exact ⟨HI.out, HRV.out, HA.out, of_decide_eq_true HF.out.symm⟩)
                  have hwk2 : IntKind.i64.wrap ((j : Int) + 1) = (j : Int) + 1 := IntWalk.i64_in _ (by have := HL.out; omega)
                  go_wp2
                  go_roundg (l.length - (j + 1))
                  case measure => omega
                  case rel => exact ⟨j + 1, by simp, by omega, HN.out, HBJ.out⟩
                | false =>
                  have HV := Lib.hid (show R = false from HBad.out True fun h => by
                    rw [HT.out, rl_snoc] at h
                    exact of_decide_eq_false HF.out.symm h.2.2.2)
                  go_wp2
                  go_ret
                  exact ⟨by rw [HV.out]; rfl, HBJ.out⟩
        · have HA := Lib.hid (show ∀ a, (l.take k).getLast? = some a → lt8 (pl a) (pl x) = true from fun a ha => by
            rw [HLA.out] at ha
            cases ha)
          go_wp2_with fail
          refine wp_region_old (by kernel_rfl) (by kernel_rfl) ?_
          repeat (go_big_quiet_step ((first | (intro hw; with_reducible exact H1.out _ _ hw))))
          refine wpQuiet_nil ?_
          intro w9 hw9
          have HB9 := Lib.hid (show Below w.heap.size w w9 from HB.out.trans (Below.mono hw9 HB.out.size))
          have hcx := HE.out.at HB9.out hlt
          rw [HXK.out] at hcx
          obtain ⟨b', off', e1, _, hcx⟩ := hcx
          cases e1
          have x0 := hcx.c0
          clear hw9 hcx c0 c1 c2
          go_wp2_with fail
          refine (H3.out _ _ (OldC.self _)).mono ?_
          rintro e w3 ⟨rfl, hb3⟩
          have HB3 := Lib.hid (show Below w.heap.size w w3 from HB9.out.trans (Below.mono hb3 HB9.out.size))
          have HF0 := Lib.hid (show (q.toList == [47]) = decide (inD (l.take 0) x) by
            rw [eq_slash, HQ.out]
            unfold inD
            simp)
          clear hb3 x0
          go_wp2
          go_loopg [4, 5] k (fun g f i wx => ∃ (j : Nat) (z : Bool), f = .bool z ∧ i = .int .i64 (j : Int) ∧ j + g = k ∧ Hid (z = decide (inD (l.take j) x)) ∧ Hid (Below w.heap.size w wx))
          case atStart => exact ⟨0, _, rfl, rfl, by omega, HF0.out, HB3.out⟩
          case round =>
            obtain ⟨j, z, rfl, rfl, hj, HF, HBJ⟩ := hrel
            by_cases hjk : j < k
            · have hjk' : (j : Int) < (k : Int) := by omega
              have hjl : j < l.length := by omega
              have hjl' : (j : Int) < (l.length : Int) := by omega
              have hwj : IntKind.i64.wrap ((j : Int) + 1) = (j : Int) + 1 := IntWalk.i64_in _ (by have := HL.out; omega)
              have HIN := Lib.hid (inD_take l x j hjl)
              have hcx := HE.out.at HBJ.out hlt
              have hcy := HE.out.at HBJ.out hjl
              rw [HXK.out] at hcx
              obtain ⟨u, hu⟩ : ∃ u, l[j] = u := ⟨_, rfl⟩
              rw [hu] at hcy HIN
              obtain ⟨b', off', e1, _, hcx⟩ := hcx
              cases e1
              obtain ⟨b', off', e1, _, hcy⟩ := hcy
              cases e1
              have x0 := hcx.c0
              have u0 := hcy.c0
              have u1 := hcy.c1
              clear hcx hcy hu
              have ways : ∃ z', Hid (z' = decide (inD (l.take (j + 1)) x)) ∧ ((z = true ∧ z' = true) ∨ (z = false ∧ (u.1.toList == q.toList) = false ∧ z' = false) ∨ (z = false ∧ (u.1.toList == q.toList) = true ∧ (u.2.1 == 2) = true ∧ z' = true) ∨ (z = false ∧ (u.1.toList == q.toList) = true ∧ (u.2.1 == 2) = false ∧ (u.2.1 == 4) = true ∧ z' = true) ∨ (z = false ∧ (u.1.toList == q.toList) = true ∧ (u.2.1 == 2) = false ∧ (u.2.1 == 4) = false ∧ z' = false)) := by
                have hq2 : (u.1.toList == q.toList) = decide (pl u = par9 (pl x)) := by rw [Lib.toList_data, Lib.toList_data, HQ.out, Bool.eq_iff_iff, beq_iff_eq, decide_eq_true_iff]
                have hz2 : decide (inD (l.take (j + 1)) x) = (z || (decide (pl u = par9 (pl x)) && hd u)) := by
                  rw [Bool.eq_iff_iff, decide_eq_true_iff, HIN.out, Bool.or_eq_true, HF.out, decide_eq_true_iff, Bool.and_eq_true, decide_eq_true_iff]
                refine ⟨_, rfl, ?_⟩
                rw [hz2, hq2]
                unfold hd
                cases z with
                | true => exact .inl ⟨rfl, rfl⟩
                | false =>
                  cases decide (pl u = par9 (pl x)) with
                  | false => exact .inr (.inl ⟨rfl, rfl, rfl⟩)
                  | true =>
                    cases (u.2.1 == 2) with
                    | true => exact .inr (.inr (.inl ⟨rfl, rfl, rfl, rfl⟩))
                    | false =>
                      cases (u.2.1 == 4) with
                      | true => exact .inr (.inr (.inr (.inl ⟨rfl, rfl, rfl, rfl, rfl⟩)))
                      | false => exact .inr (.inr (.inr (.inr ⟨rfl, rfl, rfl, rfl, rfl⟩)))
              obtain ⟨z', HZ', ways⟩ := ways
              clear HIN HF
              rcases ways with ⟨rfl, rfl⟩ | ⟨rfl, s1, rfl⟩ | ⟨rfl, s1, s2, rfl⟩ | ⟨rfl, s1, s2, s3, rfl⟩ | ⟨rfl, s1, s2, s3, rfl⟩
              all_goals
                go_wp2_with fail
                refine wp_region_old (by kernel_rfl) (by kernel_rfl) ?_
                repeat (go_big_quiet_step ((first | (intro hw; with_reducible exact H3.out _ _ hw))))
                refine wpQuiet_nil ?_
                intro w8 hw8
                have HB8 := Lib.hid (show Below w.heap.size w w8 from HBJ.out.trans (Below.mono hw8 HBJ.out.size))
                clear hw8
                go_wp2
                go_roundg (k - (j + 1))
                case measure => omega
                case rel => exact ⟨j + 1, _, rfl, by simp, by omega, HZ'.out, HB8.out⟩
            · have hjk' : ¬ (j : Int) < (k : Int) := by omega
              have e : j = k := by omega
              subst e
              cases z with
              | true =>
                have HN := Lib.hid (show RL (l.take (j + 1)) by
                  rw [HT.out, rl_snoc]
                  exact ⟨HI.out, HRV.out, HA.out, of_decide_eq_true HF.out.symm⟩)
                have hwk2 : IntKind.i64.wrap ((j : Int) + 1) = (j : Int) + 1 := IntWalk.i64_in _ (by have := HL.out; omega)
                go_wp2
                go_roundg (l.length - (j + 1))
                case measure => omega
                case rel => exact ⟨j + 1, by simp, by omega, HN.out, HBJ.out⟩
              | false =>
                have HV := Lib.hid (show R = false from HBad.out True fun h => by
                  rw [HT.out, rl_snoc] at h
                  exact of_decide_eq_false HF.out.symm h.2.2.2)
                go_wp2
                go_ret
                exact ⟨by rw [HV.out]; rfl, HBJ.out⟩
    · have hlt' : ¬ (k : Int) < (l.length : Int) := by omega
      have HV := Lib.hid (show R = decide (l.length ≤ 64) by
        have := HI.out
        rw [List.take_of_length_le (by omega)] at this
        rw [← HR.out]
        unfold RightL
        simp [this])
      go_wp2
      go_ret
      exact ⟨by rw [HV.out]; first | rfl | (simp; done) | (simp; omega), HB.out⟩
end Go.Proofs.Ytkannambildnoaa

namespace Go.Proofs.Ytkannambildnoaa
open Go.RowKit

theorem tr_take {l : List Ent} (h : TR l) (n : Nat) : TR (l.take n) := ⟨rl_take h.1 n, fun e he => h.2 e (List.mem_of_mem_take he)⟩
theorem tr_snoc10 {l : List Ent} {e : Ent} : TR (l ++ [e]) ↔ TR l ∧ rE e = true ∧ e.2.1 ≤ 2 ∧ (∀ a, l.getLast? = some a → lt8 (pl a) (pl e) = true) ∧ inD l e := by
  unfold TR
  rw [rl_snoc]
  constructor
  · rintro ⟨⟨h1, h2, h3, h4⟩, h5⟩
    exact ⟨⟨h1, fun x hx => h5 x (by simp [hx])⟩, h2, h5 e (by simp), h3, h4⟩
  · rintro ⟨⟨h1, h2⟩, h3, h4, h5, h6⟩
    refine ⟨⟨h1, h3, h5, h6⟩, fun x hx => ?_⟩
    rcases List.mem_append.1 hx with h | h
    · exact h2 x h
    · obtain rfl : x = e := by simpa using h
      exact h4
theorem hd_tree {e : Ent} (h : e.2.1 ≤ 2) : hd e = (e.2.1 == 2) := by
  unfold hd
  rw [show (e.2.1 == 4) = false by rw [beq_eq_false_iff_ne]; omega, Bool.or_false]
attribute [local go_sem ↓] old_ldi old_lds old_lde3
attribute [local go_sem] oldC_forall isC1_ptr isS1_ptr c1V_ptr isE3_ptr e3V_ptr
set_option maxRecDepth 10000 in
set_option maxHeartbeats 4000000 in
theorem refTree10 (l : List Ent) (a : Option Addr) (cap : Nat) (w : World) (h : Ents w a cap l) (hl : l.length ≤ 2000) (hz : ∀ e ∈ l, e.1.size ≤ 100000) : Calls Try.prog 17 #[.slice a l.length cap] w fun e w' => e = .returned (.bool (decide (TreeL l))) ∧ Below w.heap.size w w' := by
  obtain ⟨R, hR⟩ : ∃ R, decide (TreeL l) = R := ⟨_, rfl⟩
  rw [hR]
  have HR := Lib.hid hR
  have HE := Lib.hid h
  have HL := Lib.hid hl
  have HZ := Lib.hid hz
  clear hR h hl hz
  go_enter Try.func17, Try.ntmps17
  go_wp2
  go_loopg [3] l.length (fun g i wx => ∃ k : Nat, i = .int .i64 (k : Int) ∧ k + g = l.length ∧ Hid (TR (l.take k)) ∧ Hid (Below w.heap.size w wx))
  case atStart => exact ⟨0, rfl, by omega, by simpa [Hid] using tr_nil, Below.refl _ _⟩
  case round =>
    obtain ⟨k, rfl, hk, HI, HB⟩ := hrel
    by_cases hlt : k < l.length
    · have hlt' : (k : Int) < (l.length : Int) := by omega
      obtain ⟨b, off, rfl, hb, hc⟩ := HE.out.at HB.out hlt
      have HT := Lib.hid (show l.take (k + 1) = l.take k ++ [l[k]] from take_get l k hlt)
      have HX := Lib.hid (HZ.out _ (List.getElem_mem hlt))
      obtain ⟨x, hx⟩ : ∃ x, l[k] = x := ⟨_, rfl⟩
      rw [hx] at hc HT HX
      have HXK := Lib.hid hx
      have c0 := hc.c0
      have c1 := hc.c1
      have c2 := hc.c2
      have H1 : Hid (∀ w0 w', OldC w0 w' → Calls Try.prog 29 #[enV x] w' fun e w'' => e = .returned (.bool (rE x)) ∧ OldC w0 w'') := fun w0 w' hw' => by
        refine (refRight_any x.1 x.2.1 x.2.2 HX.out w').mono ?_
        rintro e w'' ⟨rfl, hb⟩
        exact ⟨rfl, hw'.then hb⟩
      clear hc hx hb
      obtain ⟨v, hv⟩ : ∃ v, rE x = v := ⟨_, rfl⟩
      rw [hv] at H1
      have HRV := Lib.hid hv
      clear hv
      have bad : ∀ (P : Prop), (TR (l.take (k + 1)) → False) → R = false := fun _ h => by
        rw [← HR.out, decide_eq_false]
        exact fun h2 => h (tr_take h2.2 _)
      have HBad := Lib.hid bad
      clear bad
      cases v with
      | false =>
        have HV := Lib.hid (show R = false from HBad.out True fun h => by
          rw [HT.out, tr_snoc10] at h
          have := h.2.1
          rw [HRV.out] at this
          cases this)
        go_wp2_with fail
        refine wp_region_old (by kernel_rfl) (by kernel_rfl) ?_
        repeat (go_big_quiet_step ((first | (intro hw; with_reducible exact H1.out _ _ hw))))
        refine wpQuiet_nil ?_
        intro w9 hw9
        have HB9 := Lib.hid (show Below w.heap.size w w9 from HB.out.trans (Below.mono hw9 HB.out.size))
        clear hw9
        go_wp2
        go_ret
        exact ⟨by rw [HV.out]; rfl, HB9.out⟩
      | true =>
        by_cases hk2 : ¬ x.2.1 ≤ 2
        · have g2 : decide ((2 : Int) < x.2.1) = true := decide_eq_true (by omega)
          have HV := Lib.hid (show R = false from HBad.out True fun h => by
            rw [HT.out, tr_snoc10] at h
            exact hk2 h.2.2.1)
          clear hk2
          go_wp2_with fail
          refine wp_region_old (by kernel_rfl) (by kernel_rfl) ?_
          repeat (go_big_quiet_step ((first | (intro hw; with_reducible exact H1.out _ _ hw))))
          refine wpQuiet_nil ?_
          intro w9 hw9
          have HB9 := Lib.hid (show Below w.heap.size w w9 from HB.out.trans (Below.mono hw9 HB.out.size))
          clear hw9
          go_wp2
          go_ret
          exact ⟨by rw [HV.out]; rfl, HB9.out⟩
        have hk3 : x.2.1 ≤ 2 := Decidable.not_not.1 hk2
        have HK2 := Lib.hid hk3
        have g2 : decide ((2 : Int) < x.2.1) = false := decide_eq_false (by omega)
        clear hk2 hk3
        have H3 : Hid (∀ w0 w', OldC w0 w' → Calls Try.prog 31 #[.string x.1] w' fun e w'' => e = .returned (.string (bs (par9 (pl x)))) ∧ OldC w0 w'') := fun w0 w' hw' => by
          obtain ⟨p1, p2⟩ := rE_isP HRV.out
          refine (refPar9 x.1 p1 p2 w').mono ?_
          rintro e w'' ⟨rfl, hb⟩
          exact ⟨rfl, hw'.then hb⟩
        obtain ⟨q, hq⟩ : ∃ q, bs (par9 (pl x)) = q := ⟨_, rfl⟩
        rw [hq] at H3
        have HQ := Lib.hid (show q.data.toList = par9 (pl x) by rw [← hq, bs_list])
        clear hq
        have way : (∃ k' y, Hid (k' + 1 = k) ∧ IntKind.i64.wrap ((k : Int) - 1) = (k' : Int) ∧ decide (0 < k) = true ∧ (k' : Int) < (l.length : Int) ∧ EnCells wr b (off + k' * 3) y ∧ Hid (∀ a, (l.take k).getLast? = some a ↔ a = y) ∧ Hid (y.1.size ≤ 100000)) ∨ (decide (0 < k) = false ∧ Hid ((l.take k).getLast? = none)) := by
          by_cases h0 : 0 < k
          · left
            have hk1 : k - 1 < l.length := by omega
            obtain ⟨b', off', e1, _, hc'⟩ := HE.out.at HB.out hk1
            cases e1
            refine ⟨k - 1, l[k - 1], by show k - 1 + 1 = k; omega, ?_, decide_eq_true h0, by omega, hc', fun a => ?_, HZ.out _ (List.getElem_mem hk1)⟩
            · rw [show (k : Int) - 1 = ((k - 1 : Nat) : Int) by omega]
              exact IntWalk.i64_in _ (by have := HL.out; omega)
            · rw [last_take l k hlt h0]
              simp [eq_comm]
          · right
            have : k = 0 := by omega
            subst this
            exact ⟨rfl, by simp [Hid]⟩
        rcases way with ⟨k', y, HK1, hwk, h0, hk'l, hcy, HLA, HYZ⟩ | ⟨h0, HLA⟩
        · have d0 := hcy.c0
          have H2 : Hid (∀ w0 w', OldC w0 w' → Calls Try.prog 30 #[.string y.1, .string x.1] w' fun e w'' => e = .returned (.bool (lt8 (pl y) (pl x))) ∧ OldC w0 w'') := fun w0 w' hw' => by
            refine (refLess_any y.1 x.1 HYZ.out HX.out w').mono ?_
            rintro e w'' ⟨rfl, hb⟩
            exact ⟨rfl, hw'.then hb⟩
          obtain ⟨v2, hv2⟩ : ∃ v2, lt8 (pl y) (pl x) = v2 := ⟨_, rfl⟩
          rw [hv2] at H2
          have HRV2 := Lib.hid hv2
          clear hv2 hcy
          cases v2 with
          | false =>
            have HV := Lib.hid (show R = false from HBad.out True fun h => by
              rw [HT.out, tr_snoc10] at h
              have := h.2.2.2.1 y ((HLA.out y).2 rfl)
              rw [HRV2.out] at this
              cases this)
            go_wp2_with fail
            refine wp_region_old (by kernel_rfl) (by kernel_rfl) ?_
            repeat (go_big_quiet_step ((first | (intro hw; with_reducible exact H1.out _ _ hw) | (intro hw; with_reducible exact H2.out _ _ hw))))
            refine wpQuiet_nil ?_
            intro w9 hw9
            have HB9 := Lib.hid (show Below w.heap.size w w9 from HB.out.trans (Below.mono hw9 HB.out.size))
            clear hw9
            go_wp2
            go_ret
            exact ⟨by rw [HV.out]; rfl, HB9.out⟩
          | true =>
            have HA := Lib.hid (show ∀ a, (l.take k).getLast? = some a → lt8 (pl a) (pl x) = true from fun a ha => by
              rw [HLA.out] at ha
              rw [ha]
              exact HRV2.out)
            go_wp2_with fail
            refine wp_region_old (by kernel_rfl) (by kernel_rfl) ?_
            repeat (go_big_quiet_step ((first | (intro hw; with_reducible exact H1.out _ _ hw) | (intro hw; with_reducible exact H2.out _ _ hw))))
            refine wpQuiet_nil ?_
            intro w9 hw9
            have HB9 := Lib.hid (show Below w.heap.size w w9 from HB.out.trans (Below.mono hw9 HB.out.size))
            have hcx := HE.out.at HB9.out hlt
            rw [HXK.out] at hcx
            obtain ⟨b', off', e1, _, hcx⟩ := hcx
            cases e1
            have x0 := hcx.c0
            clear hw9 hcx c0 c1 c2
            go_wp2_with fail
            refine (H3.out _ _ (OldC.self _)).mono ?_
            rintro e w3 ⟨rfl, hb3⟩
            have HB3 := Lib.hid (show Below w.heap.size w w3 from HB9.out.trans (Below.mono hb3 HB9.out.size))
            have HF0 := Lib.hid (show (q.toList == [47]) = decide (inD (l.take 0) x) by
              rw [eq_slash, HQ.out]
              unfold inD
              simp)
            clear hb3 x0
            go_wp2
            go_loopg [5, 6] k (fun g f i wx => ∃ (j : Nat) (z : Bool), f = .bool z ∧ i = .int .i64 (j : Int) ∧ j + g = k ∧ Hid (z = decide (inD (l.take j) x)) ∧ Hid (Below w.heap.size w wx))
            case atStart => exact ⟨0, _, rfl, rfl, by omega, HF0.out, HB3.out⟩
            case round =>
              obtain ⟨j, z, rfl, rfl, hj, HF, HBJ⟩ := hrel
              by_cases hjk : j < k
              · have hjk' : (j : Int) < (k : Int) := by omega
                have hjl : j < l.length := by omega
                have hjl' : (j : Int) < (l.length : Int) := by omega
                have hwj : IntKind.i64.wrap ((j : Int) + 1) = (j : Int) + 1 := IntWalk.i64_in _ (by have := HL.out; omega)
                have HIN := Lib.hid (inD_take l x j hjl)
                have hcx := HE.out.at HBJ.out hlt
                have hcy := HE.out.at HBJ.out hjl
                rw [HXK.out] at hcx
                have HU2 := Lib.hid (HI.out.2 (l[j]) (List.mem_take_iff_getElem.2 ⟨j, by rw [Nat.lt_min]; omega, rfl⟩))
                obtain ⟨u, hu⟩ : ∃ u, l[j] = u := ⟨_, rfl⟩
                rw [hu] at hcy HIN HU2
                obtain ⟨b', off', e1, _, hcx⟩ := hcx
                cases e1
                obtain ⟨b', off', e1, _, hcy⟩ := hcy
                cases e1
                have x0 := hcx.c0
                have u0 := hcy.c0
                have u1 := hcy.c1
                clear hcx hcy hu
                have ways : ∃ z', Hid (z' = decide (inD (l.take (j + 1)) x)) ∧ ((z = true ∧ z' = true) ∨ (z = false ∧ (u.1.toList == q.toList) = false ∧ z' = false) ∨ (z = false ∧ (u.1.toList == q.toList) = true ∧ (u.2.1 == 2) = true ∧ z' = true) ∨ (z = false ∧ (u.1.toList == q.toList) = true ∧ (u.2.1 == 2) = false ∧ z' = false)) := by
                  have hq2 : (u.1.toList == q.toList) = decide (pl u = par9 (pl x)) := by rw [Lib.toList_data, Lib.toList_data, HQ.out, Bool.eq_iff_iff, beq_iff_eq, decide_eq_true_iff]
                  have hz2 : decide (inD (l.take (j + 1)) x) = (z || (decide (pl u = par9 (pl x)) && hd u)) := by
                    rw [Bool.eq_iff_iff, decide_eq_true_iff, HIN.out, Bool.or_eq_true, HF.out, decide_eq_true_iff, Bool.and_eq_true, decide_eq_true_iff]
                  refine ⟨_, rfl, ?_⟩
                  rw [hz2, hq2]
                  rw [hd_tree HU2.out]
                  cases z with
                  | true => exact .inl ⟨rfl, rfl⟩
                  | false =>
                    cases decide (pl u = par9 (pl x)) with
                    | false => exact .inr (.inl ⟨rfl, rfl, rfl⟩)
                    | true =>
                      cases (u.2.1 == 2) with
                      | true => exact .inr (.inr (.inl ⟨rfl, rfl, rfl, rfl⟩))
                      | false => exact .inr (.inr (.inr ⟨rfl, rfl, rfl, rfl⟩))
                obtain ⟨z', HZ', ways⟩ := ways
                clear HIN HF
                rcases ways with ⟨rfl, rfl⟩ | ⟨rfl, s1, rfl⟩ | ⟨rfl, s1, s2, rfl⟩ | ⟨rfl, s1, s2, rfl⟩
                all_goals
                  have HB8 := HBJ
                  go_wp2
                  go_roundg (k - (j + 1))
                  case measure => omega
                  case rel => exact ⟨j + 1, _, rfl, by simp, by omega, HZ'.out, HB8.out⟩
              · have hjk' : ¬ (j : Int) < (k : Int) := by omega
                have e : j = k := by omega
                subst e
                cases z with
                | true =>
                  have HN := Lib.hid (show TR (l.take (j + 1)) by
                    rw [HT.out, tr_snoc10]
                    exact ⟨HI.out, HRV.out, HK2.out, HA.out, of_decide_eq_true HF.out.symm⟩)
                  have hwk2 : IntKind.i64.wrap ((j : Int) + 1) = (j : Int) + 1 := IntWalk.i64_in _ (by have := HL.out; omega)
                  go_wp2
                  go_roundg (l.length - (j + 1))
                  case measure => omega
                  case rel => exact ⟨j + 1, by simp, by omega, HN.out, HBJ.out⟩
                | false =>
                  have HV := Lib.hid (show R = false from HBad.out True fun h => by
                    rw [HT.out, tr_snoc10] at h
                    exact of_decide_eq_false HF.out.symm h.2.2.2.2)
                  go_wp2
                  go_ret
                  exact ⟨by rw [HV.out]; rfl, HBJ.out⟩
        · have HA := Lib.hid (show ∀ a, (l.take k).getLast? = some a → lt8 (pl a) (pl x) = true from fun a ha => by
            rw [HLA.out] at ha
            cases ha)
          go_wp2_with fail
          refine wp_region_old (by kernel_rfl) (by kernel_rfl) ?_
          repeat (go_big_quiet_step ((first | (intro hw; with_reducible exact H1.out _ _ hw))))
          refine wpQuiet_nil ?_
          intro w9 hw9
          have HB9 := Lib.hid (show Below w.heap.size w w9 from HB.out.trans (Below.mono hw9 HB.out.size))
          have hcx := HE.out.at HB9.out hlt
          rw [HXK.out] at hcx
          obtain ⟨b', off', e1, _, hcx⟩ := hcx
          cases e1
          have x0 := hcx.c0
          clear hw9 hcx c0 c1 c2
          go_wp2_with fail
          refine (H3.out _ _ (OldC.self _)).mono ?_
          rintro e w3 ⟨rfl, hb3⟩
          have HB3 := Lib.hid (show Below w.heap.size w w3 from HB9.out.trans (Below.mono hb3 HB9.out.size))
          have HF0 := Lib.hid (show (q.toList == [47]) = decide (inD (l.take 0) x) by
            rw [eq_slash, HQ.out]
            unfold inD
            simp)
          clear hb3 x0
          go_wp2
          go_loopg [5, 6] k (fun g f i wx => ∃ (j : Nat) (z : Bool), f = .bool z ∧ i = .int .i64 (j : Int) ∧ j + g = k ∧ Hid (z = decide (inD (l.take j) x)) ∧ Hid (Below w.heap.size w wx))
          case atStart => exact ⟨0, _, rfl, rfl, by omega, HF0.out, HB3.out⟩
          case round =>
            obtain ⟨j, z, rfl, rfl, hj, HF, HBJ⟩ := hrel
            by_cases hjk : j < k
            · have hjk' : (j : Int) < (k : Int) := by omega
              have hjl : j < l.length := by omega
              have hjl' : (j : Int) < (l.length : Int) := by omega
              have hwj : IntKind.i64.wrap ((j : Int) + 1) = (j : Int) + 1 := IntWalk.i64_in _ (by have := HL.out; omega)
              have HIN := Lib.hid (inD_take l x j hjl)
              have hcx := HE.out.at HBJ.out hlt
              have hcy := HE.out.at HBJ.out hjl
              rw [HXK.out] at hcx
              have HU2 := Lib.hid (HI.out.2 (l[j]) (List.mem_take_iff_getElem.2 ⟨j, by rw [Nat.lt_min]; omega, rfl⟩))
              obtain ⟨u, hu⟩ : ∃ u, l[j] = u := ⟨_, rfl⟩
              rw [hu] at hcy HIN HU2
              obtain ⟨b', off', e1, _, hcx⟩ := hcx
              cases e1
              obtain ⟨b', off', e1, _, hcy⟩ := hcy
              cases e1
              have x0 := hcx.c0
              have u0 := hcy.c0
              have u1 := hcy.c1
              clear hcx hcy hu
              have ways : ∃ z', Hid (z' = decide (inD (l.take (j + 1)) x)) ∧ ((z = true ∧ z' = true) ∨ (z = false ∧ (u.1.toList == q.toList) = false ∧ z' = false) ∨ (z = false ∧ (u.1.toList == q.toList) = true ∧ (u.2.1 == 2) = true ∧ z' = true) ∨ (z = false ∧ (u.1.toList == q.toList) = true ∧ (u.2.1 == 2) = false ∧ z' = false)) := by
                have hq2 : (u.1.toList == q.toList) = decide (pl u = par9 (pl x)) := by rw [Lib.toList_data, Lib.toList_data, HQ.out, Bool.eq_iff_iff, beq_iff_eq, decide_eq_true_iff]
                have hz2 : decide (inD (l.take (j + 1)) x) = (z || (decide (pl u = par9 (pl x)) && hd u)) := by
                  rw [Bool.eq_iff_iff, decide_eq_true_iff, HIN.out, Bool.or_eq_true, HF.out, decide_eq_true_iff, Bool.and_eq_true, decide_eq_true_iff]
                refine ⟨_, rfl, ?_⟩
                rw [hz2, hq2]
                rw [hd_tree HU2.out]
                cases z with
                | true => exact .inl ⟨rfl, rfl⟩
                | false =>
                  cases decide (pl u = par9 (pl x)) with
                  | false => exact .inr (.inl ⟨rfl, rfl, rfl⟩)
                  | true =>
                    cases (u.2.1 == 2) with
                    | true => exact .inr (.inr (.inl ⟨rfl, rfl, rfl, rfl⟩))
                    | false => exact .inr (.inr (.inr ⟨rfl, rfl, rfl, rfl⟩))
              obtain ⟨z', HZ', ways⟩ := ways
              clear HIN HF
              rcases ways with ⟨rfl, rfl⟩ | ⟨rfl, s1, rfl⟩ | ⟨rfl, s1, s2, rfl⟩ | ⟨rfl, s1, s2, rfl⟩
              all_goals
                have HB8 := HBJ
                go_wp2
                go_roundg (k - (j + 1))
                case measure => omega
                case rel => exact ⟨j + 1, _, rfl, by simp, by omega, HZ'.out, HB8.out⟩
            · have hjk' : ¬ (j : Int) < (k : Int) := by omega
              have e : j = k := by omega
              subst e
              cases z with
              | true =>
                have HN := Lib.hid (show TR (l.take (j + 1)) by
                  rw [HT.out, tr_snoc10]
                  exact ⟨HI.out, HRV.out, HK2.out, HA.out, of_decide_eq_true HF.out.symm⟩)
                have hwk2 : IntKind.i64.wrap ((j : Int) + 1) = (j : Int) + 1 := IntWalk.i64_in _ (by have := HL.out; omega)
                go_wp2
                go_roundg (l.length - (j + 1))
                case measure => omega
                case rel => exact ⟨j + 1, by simp, by omega, HN.out, HBJ.out⟩
              | false =>
                have HV := Lib.hid (show R = false from HBad.out True fun h => by
                  rw [HT.out, tr_snoc10] at h
                  exact of_decide_eq_false HF.out.symm h.2.2.2.2)
                go_wp2
                go_ret
                exact ⟨by rw [HV.out]; rfl, HBJ.out⟩
    · have hlt' : ¬ (k : Int) < (l.length : Int) := by omega
      have HV := Lib.hid (show R = decide (l.length ≤ 1024) by
        have := HI.out
        rw [List.take_of_length_le (by omega)] at this
        rw [← HR.out]
        unfold TreeL
        simp [this])
      go_wp2
      go_ret
      exact ⟨by rw [HV.out]; first | rfl | (simp; done) | (simp; omega), HB.out⟩
end Go.Proofs.Ytkannambildnoaa

namespace Go.Proofs.Ytkannambildnoaa
open Go.RowKit

theorem filter_take {l : List Ent} (f : Ent → Bool) (k : Nat) (h : k < l.length) : (l.take (k + 1)).filter f = (l.take k).filter f ++ (if f l[k] then [l[k]] else []) := by
  rw [take_get l k h, List.filter_append, List.filter_cons]
  simp
theorem OwnE.grow {w w' : World} {B : Nat} (W : World) (hB : Below B W w) (hs : B ≤ w.heap.size) {v : Value} {l : List Ent} (h : OwnE w B v l) (hg : w.grownBy w' v.ownBlock) : Below B W w' := hB.grown hg hs fun k hk => (ownE_blk h k hk).1
theorem wth_append (a b : List Ent) (e : Ent) (hb : ∀ x ∈ b, lt8 (pl e) (pl x) = true) : wth (a ++ b) e = wth a e ++ b := by
  have h1 : b.filter (fun a => lt8 (pl a) (pl e)) = [] := List.filter_eq_nil_iff.2 fun x hx => by rw [lt8_asymm (hb x hx)]; simp
  have h2 : b.filter (fun a => lt8 (pl e) (pl a)) = b := List.filter_eq_self.2 hb
  unfold wth
  rw [List.filter_append, List.filter_append, h1, h2, List.append_nil, List.append_assoc]
  rfl
theorem wth_same (a : List Ent) (x e : Ent) (ha : ∀ y ∈ a, lt8 (pl y) (pl e) = true) (hx : pl x = pl e) : wth (a ++ [x]) e = a ++ [e] := by
  have h1 : a.filter (fun a => lt8 (pl a) (pl e)) = a := List.filter_eq_self.2 ha
  have h2 : a.filter (fun a => lt8 (pl e) (pl a)) = [] := List.filter_eq_nil_iff.2 fun y hy => by rw [lt8_asymm (ha y hy)]; simp
  unfold wth
  rw [List.filter_append, List.filter_append, h1, h2]
  simp [hx, lt8_irr]
theorem asc_drop {l : List Ent} (h : Asc l) (k : Nat) (hk : k < l.length) : ∀ y ∈ l.drop (k + 1), lt8 (pl l[k]) (pl y) = true := by
  have h2 : Asc (l.drop k) := List.Pairwise.sublist (List.drop_sublist _ _) h
  unfold Asc at h2
  rw [List.drop_eq_getElem_cons hk] at h2
  exact (List.pairwise_cons.1 h2).1
theorem filt_len {α : Type} (f g : α → Bool) (h : ∀ x, f x = true → g x = false) : ∀ l : List α, (l.filter f).length + (l.filter g).length ≤ l.length
  | [] => by simp
  | x :: r => by
    have ih := filt_len f g h r
    rw [List.filter_cons, List.filter_cons]
    cases hf : f x with
    | true =>
      rw [h x hf]
      simp
      omega
    | false =>
      cases g x <;> simp <;> omega
theorem wth_len (l : List Ent) (e : Ent) : (wth l e).length ≤ l.length + 1 := by
  have := filt_len (fun a => lt8 (pl a) (pl e)) (fun a => lt8 (pl e) (pl a)) (fun x hx => lt8_asymm hx) l
  unfold wth
  rw [List.length_append, List.length_cons]
  omega
/-- What With has made of the first k entries. -/
def WInv (l : List Ent) (e : Ent) (k : Nat) (o : List Ent) (zb : Bool) : Prop := (zb = false ∧ o = l.take k ∧ ∀ x ∈ l.take k, lt8 (pl x) (pl e) = true) ∨ (zb = true ∧ o = wth (l.take k) e ∧ ∀ x ∈ l.drop k, lt8 (pl e) (pl x) = true)
theorem WInv.len {l : List Ent} {e : Ent} {k : Nat} {o : List Ent} {zb : Bool} (h : WInv l e k o zb) : o.length ≤ k + 1 := by
  rcases h with ⟨_, rfl, _⟩ | ⟨_, rfl, _⟩
  · rw [List.length_take]; omega
  · have := wth_len (l.take k) e
    rw [List.length_take] at this
    omega
attribute [local go_sem ↓] old_ldi old_lds old_lde3
attribute [local go_sem] oldC_forall isC1_ptr isS1_ptr c1V_ptr isE3_ptr e3V_ptr
set_option maxRecDepth 10000 in
set_option maxHeartbeats 4000000 in
theorem refWith9 (l : List Ent) (a : Option Addr) (cap : Nat) (e : Ent) (w : World) (h : Ents w a cap l) (hl : l.length ≤ 900) (hA : Asc l) (hz : ∀ x ∈ l, x.1.size ≤ 100000) (he : e.1.size ≤ 100000) : Calls Try.prog 32 #[.slice a l.length cap, enV e] w fun r w' => ∃ a' cap', r = .returned (.slice a' (wth l e).length cap') ∧ Ents w' a' cap' (wth l e) ∧ Below w.heap.size w w' := by
  obtain ⟨W, hW⟩ : ∃ W, w.alloc (.cells #[.string e.1, .int .i64 e.2.1, .string e.2.2] 34) = W := ⟨_, rfl⟩
  obtain ⟨N, hN⟩ : ∃ N, w.heap.size = N := ⟨_, rfl⟩
  have hb0 : Below N w W := by rw [← hW, ← hN]; exact (Below.refl _ _).alloc (Nat.le_refl _) _
  have HB0 := Lib.hid hb0
  have HR0 := Lib.hid (show EnAt W N e.1 e.2.1 e.2.2 by rw [← hW, ← hN]; exact enAt_new _ _ _ _)
  have HE := Lib.hid (show Ents W a cap l from h.below (by rw [hN]; exact hb0))
  have HL := Lib.hid hl
  have HA := Lib.hid hA
  have HZ := Lib.hid hz
  have HZe := Lib.hid he
  clear h hl hA hz he hb0
  go_enter Try.func32, Try.ntmps32
  go_wp2
  go_loopg [5, 6, 7] l.length (fun g v z i wx => ∃ (k : Nat) (o : List Ent) (zb : Bool), z = .bool zb ∧ i = .int .i64 (k : Int) ∧ k + g = l.length ∧ Hid (OwnE wx W.heap.size v o) ∧ Hid (WInv l e k o zb) ∧ Hid (Below W.heap.size W wx))
  case atStart => exact ⟨0, [], false, rfl, rfl, by omega, ownE_nil _ _, .inl ⟨rfl, rfl, by simp⟩, Below.refl _ _⟩
  case round =>
    obtain ⟨k, o, zb, rfl, rfl, hk, HO, HI, HB⟩ := hrel
    have HOL := Lib.hid HI.out.len
    have hw : IntKind.i64.wrap ((k : Int) + 1) = (k : Int) + 1 := IntWalk.i64_in _ (by have := HL.out; omega)
    have hre := HR0.out.below HB.out
    have e0 := hre.c0
    have e1 := hre.c1
    have e2 := hre.c2
    clear hre
    by_cases hlt : k < l.length
    · have hlt' : (k : Int) < (l.length : Int) := by omega
      obtain ⟨b, off, rfl, hb, hc⟩ := HE.out.at HB.out hlt
      have HT := Lib.hid (show l.take (k + 1) = l.take k ++ [l[k]] from take_get l k hlt)
      have HX := Lib.hid (HZ.out _ (List.getElem_mem hlt))
      have HD := Lib.hid (asc_drop HA.out k hlt)
      have HDX := Lib.hid (show l[k] ∈ l.drop k by rw [List.drop_eq_getElem_cons hlt]; exact List.mem_cons_self)
      have HDS := Lib.hid (show ∀ y ∈ l.drop (k + 1), y ∈ l.drop k from fun y hy => by rw [List.drop_eq_getElem_cons hlt]; exact List.mem_cons_of_mem _ hy)
      obtain ⟨x, hx⟩ : ∃ x, l[k] = x := ⟨_, rfl⟩
      rw [hx] at hc HT HX HD HDX
      have HXK := Lib.hid hx
      have c0 := hc.c0
      have c1 := hc.c1
      have c2 := hc.c2
      have H2 : Hid (∀ w0 w', OldC w0 w' → Calls Try.prog 30 #[.string x.1, .string e.1] w' fun r w'' => r = .returned (.bool (lt8 (pl x) (pl e))) ∧ OldC w0 w'') := fun w0 w' hw' => by
        refine (refLess_any x.1 e.1 HX.out HZe.out w').mono ?_
        rintro r w'' ⟨rfl, hb⟩
        exact ⟨rfl, hw'.then hb⟩
      clear hc hx hb
      rcases HI.out with ⟨rfl, ho, hlo⟩ | ⟨rfl, ho, hgt⟩
      · cases hv : lt8 (pl x) (pl e) with
        | true =>
          rw [hv] at H2
          have HN : Hid (WInv l e (k + 1) (o ++ [x]) false) := .inl ⟨rfl, by rw [HT.out, ho], fun y hy => by
            rw [HT.out] at hy
            rcases List.mem_append.1 hy with hy | hy
            · exact hlo y hy
            · obtain rfl : y = x := by simpa using hy
              exact hv⟩
          have gp : (x.1.toList == e.1.toList) = false := by
            rw [beq_eq_false_iff_ne, Lib.toList_data, Lib.toList_data]
            exact lt8_ne hv
          clear hlo ho hv HI
          go_wp2_with fail
          refine wp_region_old (by kernel_rfl) (by kernel_rfl) ?_
          repeat (go_big_quiet_step ((first | (intro hw; with_reducible exact H2.out _ _ hw))))
          refine wpQuiet_nil ?_
          intro w3 hw3
          have HB3 := Lib.hid (show Below W.heap.size W w3 from HB.out.trans (Below.mono hw3 HB.out.size))
          have HO3 := Lib.hid (show OwnE w3 W.heap.size u5 o from HO.out.below hw3)
          clear hw3 c0 c1 c2 e0 e1 e2
          have hcx := HE.out.at HB3.out hlt
          rw [HXK.out] at hcx
          obtain ⟨b', off', e9, _, hcx⟩ := hcx
          cases e9
          have c0 := hcx.c0
          have c1 := hcx.c1
          have c2 := hcx.c2
          have hre := HR0.out.below HB3.out
          have e0 := hre.c0
          have e1 := hre.c1
          have e2 := hre.c2
          clear hcx hre
          go_wp2
          refine wp_region_old (by kernel_rfl) (by kernel_rfl) ?_
          repeat (go_big_quiet_step (fail))
          refine wpQuiet_nil ?_
          intro w5 hw5
          have HB5 := Lib.hid (show Below W.heap.size W w5 from HB3.out.trans (Below.mono hw5 HB3.out.size))
          have HO5 := Lib.hid (show OwnE w5 W.heap.size u5 o from HO3.out.below hw5)
          clear hw5 c0 c1 c2 e0 e1 e2
          have hcx := HE.out.at HB5.out hlt
          rw [HXK.out] at hcx
          obtain ⟨b', off', e9, _, hcx⟩ := hcx
          cases e9
          have c0 := hcx.c0
          have c1 := hcx.c1
          have c2 := hcx.c2
          have hre := HR0.out.below HB5.out
          have e0 := hre.c0
          have e1 := hre.c1
          have e2 := hre.c2
          clear hcx hre
          go_wp2_with (at_builtin; refine Stopped.go ?_)
          unfold Stopped
          refine wl_putE (by rfl) _ _ (by rfl) W.heap.size u5 o x (by rfl) (HO5.out.below ((Below.refl _ _).alloc (Nat.le_refl _) _)) (by have := HB5.out.size; simp; omega) w5.heap.size (by rfl) (enAt_new w5 x.1 x.2.1 x.2.2) (by have := HOL.out; have := HL.out; simp; omega) ?_
          intro v6 w6 ho hg
          have HB6 := Lib.hid ((HB5.out.alloc HB5.out.size (.cells #[.string x.1, .int .i64 x.2.1, .string x.2.2] 34)).grown hg (by have := HB5.out.size; simp; omega) (fun k hk => (ownE_blk HO5.out k hk).1))
          have HO6 := Lib.hid ho
          clear ho hg
          go_wp2
          go_roundg (gk - 1)
          case measure => omega
          case rel => exact ⟨k + 1, o ++ [x], false, rfl, by simp, by omega, HO6.out, HN.out, HB6.out⟩
        | false =>
          rw [hv] at H2
          by_cases hpe : pl x = pl e
          · have HN : Hid (WInv l e (k + 1) (o ++ [e]) true) := .inr ⟨rfl, by rw [HT.out, wth_same _ _ _ hlo hpe, ho], fun y hy => by rw [← hpe]; exact HD.out y hy⟩
            have gp : (x.1.toList == e.1.toList) = true := by
              rw [beq_iff_eq, Lib.toList_data, Lib.toList_data]
              exact hpe
            clear hlo ho hv HI hpe
            go_wp2_with fail
            refine wp_region_old (by kernel_rfl) (by kernel_rfl) ?_
            repeat (go_big_quiet_step ((first | (intro hw; with_reducible exact H2.out _ _ hw))))
            refine wpQuiet_nil ?_
            intro w3 hw3
            have HB3 := Lib.hid (show Below W.heap.size W w3 from HB.out.trans (Below.mono hw3 HB.out.size))
            have HO3 := Lib.hid (show OwnE w3 W.heap.size u5 o from HO.out.below hw3)
            clear hw3 c0 c1 c2 e0 e1 e2
            have hcx := HE.out.at HB3.out hlt
            rw [HXK.out] at hcx
            obtain ⟨b', off', e9, _, hcx⟩ := hcx
            cases e9
            have c0 := hcx.c0
            have c1 := hcx.c1
            have c2 := hcx.c2
            have hre := HR0.out.below HB3.out
            have e0 := hre.c0
            have e1 := hre.c1
            have e2 := hre.c2
            clear hcx hre
            go_wp2_with (at_builtin; refine Stopped.go ?_)
            unfold Stopped
            refine wl_putE (by rfl) _ _ (by rfl) W.heap.size u5 o e (by rfl) (HO3.out.below ((Below.refl _ _).alloc (Nat.le_refl _) _)) (by have := HB3.out.size; simp; omega) w3.heap.size (by rfl) (enAt_new w3 e.1 e.2.1 e.2.2) (by have := HOL.out; have := HL.out; simp; omega) ?_
            intro v4 w4 ho hg
            have HB4 := Lib.hid ((HB3.out.alloc HB3.out.size (.cells #[.string e.1, .int .i64 e.2.1, .string e.2.2] 34)).grown hg (by have := HB3.out.size; simp; omega) (fun k hk => (ownE_blk HO3.out k hk).1))
            have HO4 := Lib.hid ho
            clear ho hg
            clear c0 c1 c2 e0 e1 e2
            have hcx := HE.out.at HB4.out hlt
            rw [HXK.out] at hcx
            obtain ⟨b', off', e9, _, hcx⟩ := hcx
            cases e9
            have c0 := hcx.c0
            have c1 := hcx.c1
            have c2 := hcx.c2
            have hre := HR0.out.below HB4.out
            have e0 := hre.c0
            have e1 := hre.c1
            have e2 := hre.c2
            clear hcx hre
            go_wp2
            refine wp_region_old (by kernel_rfl) (by kernel_rfl) ?_
            repeat (go_big_quiet_step (fail))
            refine wpQuiet_nil ?_
            intro w5 hw5
            have HB5 := Lib.hid (show Below W.heap.size W w5 from HB4.out.trans (Below.mono hw5 HB4.out.size))
            have HO5 := Lib.hid (show OwnE w5 W.heap.size v4 (o ++ [e]) from HO4.out.below hw5)
            clear hw5 c0 c1 c2 e0 e1 e2
            go_wp2
            go_roundg (gk - 1)
            case measure => omega
            case rel => exact ⟨k + 1, o ++ [e], true, rfl, by simp, by omega, HO5.out, HN.out, HB5.out⟩
          · have hgx : lt8 (pl e) (pl x) = true := by
              rcases lt8_tri (pl x) (pl e) with h | h | h
              · exact absurd h hpe
              · rw [hv] at h; cases h
              · exact h
            have HN : Hid (WInv l e (k + 1) (o ++ [e] ++ [x]) true) := .inr ⟨rfl, by rw [HT.out, wth_append _ _ _ (fun y hy => by
              obtain rfl : y = x := by simpa using hy
              exact hgx), wth_snoc hlo, ho], fun y hy => lt8_trans hgx (HD.out y hy)⟩
            have gp : (x.1.toList == e.1.toList) = false := by
              rw [beq_eq_false_iff_ne, Lib.toList_data, Lib.toList_data]
              exact hpe
            clear hlo ho hv HI hpe hgx
            go_wp2_with fail
            refine wp_region_old (by kernel_rfl) (by kernel_rfl) ?_
            repeat (go_big_quiet_step ((first | (intro hw; with_reducible exact H2.out _ _ hw))))
            refine wpQuiet_nil ?_
            intro w3 hw3
            have HB3 := Lib.hid (show Below W.heap.size W w3 from HB.out.trans (Below.mono hw3 HB.out.size))
            have HO3 := Lib.hid (show OwnE w3 W.heap.size u5 o from HO.out.below hw3)
            clear hw3 c0 c1 c2 e0 e1 e2
            have hcx := HE.out.at HB3.out hlt
            rw [HXK.out] at hcx
            obtain ⟨b', off', e9, _, hcx⟩ := hcx
            cases e9
            have c0 := hcx.c0
            have c1 := hcx.c1
            have c2 := hcx.c2
            have hre := HR0.out.below HB3.out
            have e0 := hre.c0
            have e1 := hre.c1
            have e2 := hre.c2
            clear hcx hre
            go_wp2_with (at_builtin; refine Stopped.go ?_)
            unfold Stopped
            refine wl_putE (by rfl) _ _ (by rfl) W.heap.size u5 o e (by rfl) (HO3.out.below ((Below.refl _ _).alloc (Nat.le_refl _) _)) (by have := HB3.out.size; simp; omega) w3.heap.size (by rfl) (enAt_new w3 e.1 e.2.1 e.2.2) (by have := HOL.out; have := HL.out; simp; omega) ?_
            intro v4 w4 ho hg
            have HB4 := Lib.hid ((HB3.out.alloc HB3.out.size (.cells #[.string e.1, .int .i64 e.2.1, .string e.2.2] 34)).grown hg (by have := HB3.out.size; simp; omega) (fun k hk => (ownE_blk HO3.out k hk).1))
            have HO4 := Lib.hid ho
            clear ho hg
            clear c0 c1 c2 e0 e1 e2
            have hcx := HE.out.at HB4.out hlt
            rw [HXK.out] at hcx
            obtain ⟨b', off', e9, _, hcx⟩ := hcx
            cases e9
            have c0 := hcx.c0
            have c1 := hcx.c1
            have c2 := hcx.c2
            have hre := HR0.out.below HB4.out
            have e0 := hre.c0
            have e1 := hre.c1
            have e2 := hre.c2
            clear hcx hre
            go_wp2
            refine wp_region_old (by kernel_rfl) (by kernel_rfl) ?_
            repeat (go_big_quiet_step (fail))
            refine wpQuiet_nil ?_
            intro w5 hw5
            have HB5 := Lib.hid (show Below W.heap.size W w5 from HB4.out.trans (Below.mono hw5 HB4.out.size))
            have HO5 := Lib.hid (show OwnE w5 W.heap.size v4 (o ++ [e]) from HO4.out.below hw5)
            clear hw5 c0 c1 c2 e0 e1 e2
            have hcx := HE.out.at HB5.out hlt
            rw [HXK.out] at hcx
            obtain ⟨b', off', e9, _, hcx⟩ := hcx
            cases e9
            have c0 := hcx.c0
            have c1 := hcx.c1
            have c2 := hcx.c2
            have hre := HR0.out.below HB5.out
            have e0 := hre.c0
            have e1 := hre.c1
            have e2 := hre.c2
            clear hcx hre
            go_wp2_with (at_builtin; refine Stopped.go ?_)
            unfold Stopped
            refine wl_putE (by rfl) _ _ (by rfl) W.heap.size v4 (o ++ [e]) x (by rfl) (HO5.out.below ((Below.refl _ _).alloc (Nat.le_refl _) _)) (by have := HB5.out.size; simp; omega) w5.heap.size (by rfl) (enAt_new w5 x.1 x.2.1 x.2.2) (by have := HOL.out; have := HL.out; simp; omega) ?_
            intro v6 w6 ho hg
            have HB6 := Lib.hid ((HB5.out.alloc HB5.out.size (.cells #[.string x.1, .int .i64 x.2.1, .string x.2.2] 34)).grown hg (by have := HB5.out.size; simp; omega) (fun k hk => (ownE_blk HO5.out k hk).1))
            have HO6 := Lib.hid ho
            clear ho hg
            go_wp2
            go_roundg (gk - 1)
            case measure => omega
            case rel => exact ⟨k + 1, o ++ [e] ++ [x], true, rfl, by simp, by omega, HO6.out, HN.out, HB6.out⟩
      · have HN : Hid (WInv l e (k + 1) (o ++ [x]) true) := .inr ⟨rfl, by
          rw [HT.out, wth_append _ _ _ (fun y hy => by
            obtain rfl : y = x := by simpa using hy
            exact hgt y HDX.out), ho], fun y hy => hgt y (HDS.out y hy)⟩
        have gp : (x.1.toList == e.1.toList) = false := by
          rw [beq_eq_false_iff_ne, Lib.toList_data, Lib.toList_data]
          exact (lt8_ne (hgt x HDX.out)).symm
        clear hgt ho HI
        go_wp2_with fail
        refine wp_region_old (by kernel_rfl) (by kernel_rfl) ?_
        repeat (go_big_quiet_step ((first | (intro hw; with_reducible exact H2.out _ _ hw))))
        refine wpQuiet_nil ?_
        intro w3 hw3
        have HB3 := Lib.hid (show Below W.heap.size W w3 from HB.out.trans (Below.mono hw3 HB.out.size))
        have HO3 := Lib.hid (show OwnE w3 W.heap.size u5 o from HO.out.below hw3)
        clear hw3 c0 c1 c2 e0 e1 e2
        have hcx := HE.out.at HB3.out hlt
        rw [HXK.out] at hcx
        obtain ⟨b', off', e9, _, hcx⟩ := hcx
        cases e9
        have c0 := hcx.c0
        have c1 := hcx.c1
        have c2 := hcx.c2
        have hre := HR0.out.below HB3.out
        have e0 := hre.c0
        have e1 := hre.c1
        have e2 := hre.c2
        clear hcx hre
        go_wp2
        refine wp_region_old (by kernel_rfl) (by kernel_rfl) ?_
        repeat (go_big_quiet_step (fail))
        refine wpQuiet_nil ?_
        intro w5 hw5
        have HB5 := Lib.hid (show Below W.heap.size W w5 from HB3.out.trans (Below.mono hw5 HB3.out.size))
        have HO5 := Lib.hid (show OwnE w5 W.heap.size u5 o from HO3.out.below hw5)
        clear hw5 c0 c1 c2 e0 e1 e2
        have hcx := HE.out.at HB5.out hlt
        rw [HXK.out] at hcx
        obtain ⟨b', off', e9, _, hcx⟩ := hcx
        cases e9
        have c0 := hcx.c0
        have c1 := hcx.c1
        have c2 := hcx.c2
        have hre := HR0.out.below HB5.out
        have e0 := hre.c0
        have e1 := hre.c1
        have e2 := hre.c2
        clear hcx hre
        go_wp2_with (at_builtin; refine Stopped.go ?_)
        unfold Stopped
        refine wl_putE (by rfl) _ _ (by rfl) W.heap.size u5 o x (by rfl) (HO5.out.below ((Below.refl _ _).alloc (Nat.le_refl _) _)) (by have := HB5.out.size; simp; omega) w5.heap.size (by rfl) (enAt_new w5 x.1 x.2.1 x.2.2) (by have := HOL.out; have := HL.out; simp; omega) ?_
        intro v6 w6 ho hg
        have HB6 := Lib.hid ((HB5.out.alloc HB5.out.size (.cells #[.string x.1, .int .i64 x.2.1, .string x.2.2] 34)).grown hg (by have := HB5.out.size; simp; omega) (fun k hk => (ownE_blk HO5.out k hk).1))
        have HO6 := Lib.hid ho
        clear ho hg
        go_wp2
        go_roundg (gk - 1)
        case measure => omega
        case rel => exact ⟨k + 1, o ++ [x], true, rfl, by simp, by omega, HO6.out, HN.out, HB6.out⟩
    · have hlt' : ¬ (k : Int) < (l.length : Int) := by omega
      have hdone : Hid (zb = false ∧ o ++ [e] = wth l e) ∨ Hid (zb = true ∧ o = wth l e) := by
        have := HI.out
        unfold WInv at this
        rw [List.take_of_length_le (by omega)] at this
        rcases this with ⟨h1, h2, h3⟩ | ⟨h1, h2, _⟩
        · exact .inl ⟨h1, by rw [wth_snoc h3, h2]⟩
        · exact .inr ⟨h1, h2⟩
      clear HI
      rcases hdone with ⟨rfl, ho⟩ | ⟨rfl, ho⟩
      · have HV := Lib.hid ho
        clear ho
        go_wp2_with (at_builtin; refine Stopped.go ?_)
        unfold Stopped
        refine wl_putE (by rfl) _ _ (by rfl) W.heap.size u5 o e (by rfl) (HO.out.below ((Below.refl _ _).alloc (Nat.le_refl _) _)) (by have := HB.out.size; simp; omega) wr.heap.size (by rfl) (enAt_new wr e.1 e.2.1 e.2.2) (by have := HOL.out; have := HL.out; simp; omega) ?_
        intro v4 w4 ho hg
        have HB4 := Lib.hid ((HB.out.alloc HB.out.size (.cells #[.string e.1, .int .i64 e.2.1, .string e.2.2] 34)).grown hg (by have := HB.out.size; simp; omega) (fun k hk => (ownE_blk HO.out k hk).1))
        have HO4 := Lib.hid ho
        clear ho hg
        have HO5 := Lib.hid (show OwnE w4 W.heap.size v4 (wth l e) by rw [← HV.out]; exact HO4.out)
        go_wp2
        go_ret
        obtain ⟨a', cap', rfl, h2⟩ := ents_of_own HO5.out
        exact ⟨a', cap', rfl, h2, by rw [hN]; exact HB0.out.trans (HB4.out.mono (by have := HR0.out.lt; omega))⟩
      · have HO5 := Lib.hid (show OwnE wr W.heap.size u5 (wth l e) by rw [← ho]; exact HO.out)
        clear ho
        go_wp2
        go_ret
        obtain ⟨a', cap', rfl, h2⟩ := ents_of_own HO5.out
        exact ⟨a', cap', rfl, h2, by first | exact HB0.out.trans (HB.out.mono (by have := HR0.out.lt; omega)) | (rw [hN]; exact HB0.out.trans (HB.out.mono (by have := HR0.out.lt; omega)))⟩
end Go.Proofs.Ytkannambildnoaa
