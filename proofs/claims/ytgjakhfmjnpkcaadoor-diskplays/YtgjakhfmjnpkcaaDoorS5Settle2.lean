/-
  The contract of the document's own Settle of a disk (package shaleref05), walked. Condition: the disk's lists lie in memory.
-/
import Derived.Test.YtgjakhfmjnpkcaaDoorS5Settle
import Derived.Test.YtgjakhfmjnpkcaaDoorWrAt
namespace Go.Proofs.YtgjakhfmjnpkcaaDoor
open Go.RowKit

attribute [local go_sem ↓] ldw_ar stw_ar bsw_ar
attribute [local go_sem] isPgV_ptr pgAtV_ptr thereV_ptr setV_ptr cellsV_agg sl1_pg
/-- What Settle has made so far. -/
structure StO (w : World) (x : Nat) (dcs : List Value) (size bud : Int) (down : Bool) (vA vW vF : Value) (o : List WrL) (wx : World) : Prop where
  st : StS w wx x dcs [.int .i64 size, vA, vW, vF, .bool down, .int .i64 bud]
  ints : OwnL wx (x + 3) 3 1 (fun y : WrL => [.int .i64 y.1]) vA o
  pages : OwnL wx (x + 3) 36 64 (fun y : WrL => cellsB y.2) vW o
  bools : OwnL wx (x + 3) 4 1 (fun _ : WrL => [.bool true]) vF o
theorem flat_one {α : Type} (g : α → Value) : ∀ o : List α, (o.flatMap fun y => [g y]) = o.map g
  | [] => rfl
  | y :: r => by rw [List.flatMap_cons, flat_one g r]; rfl
theorem flat_snd {o : List WrL} : (o.flatMap fun y => cellsB y.2) = (o.map (·.2)).flatMap cellsB := by rw [List.flatMap_map]
theorem stl_mem (m : Int) (L : List RfL) : ∀ z ∈ (stl m L).2, ∃ y ∈ L, z = (y.1, y.2.1) := by
  induction L using snoc_ind with
  | h0 => intro z hz; cases hz
  | h1 l y ih =>
    intro z hz
    have hin : ∀ z ∈ (stl m l).2 ++ [(y.1, y.2.1)], ∃ u ∈ l ++ [y], z = (u.1, u.2.1) := fun z hz => by
      rcases List.mem_append.1 hz with hz | hz
      · obtain ⟨u, hu, e⟩ := ih z hz
        exact ⟨u, List.mem_append_left _ hu, e⟩
      · exact ⟨y, List.mem_append_right _ (List.mem_singleton.2 rfl), List.mem_singleton.1 hz⟩
    rw [stl_snoc] at hz
    unfold stlF at hz
    split at hz
    · exact hin z hz
    · split at hz
      · exact hin z hz
      · exact hin z (List.mem_append_left _ hz)
theorem stl_le (m : Int) (L : List RfL) : (stl m L).1 ≤ L.length ∧ (stl m L).2.length ≤ L.length := by
  induction L using snoc_ind with
  | h0 => exact ⟨Nat.le_refl _, Nat.le_refl _⟩
  | h1 l y ih =>
    rw [stl_snoc]
    unfold stlF
    split
    · simp; omega
    · split <;> simp <;> omega
theorem StO.start (w : World) (size bud : Int) (down : Bool) (aA aW aF : Option Addr) (cA cW cF n : Nat) :
    StO w w.heap.size [.int .i64 size, .slice aA n cA, .slice aW n cW, .slice aF n cF, .bool down, .int .i64 bud] size bud down (.slice none 0 0) (.slice none 0 0) (.slice none 0 0) []
      (((w.alloc (.cells #[.int .i64 size, .slice aA n cA, .slice aW n cW, .slice aF n cF, .bool down, .int .i64 bud] 35)).alloc (.cells #[.int .i64 0, .slice none 0 0, .slice none 0 0, .slice none 0 0, .bool false, .int .i64 0] 35)).alloc (.cells #[.int .i64 size, .slice none 0 0, .slice none 0 0, .slice none 0 0, .bool down, .int .i64 bud] 35)) := by
  have b1 : Below (w.heap.size + 1) (w.alloc (.cells #[.int .i64 size, .slice aA n cA, .slice aW n cW, .slice aF n cF, .bool down, .int .i64 bud] 35)) (((w.alloc (.cells #[.int .i64 size, .slice aA n cA, .slice aW n cW, .slice aF n cF, .bool down, .int .i64 bud] 35)).alloc (.cells #[.int .i64 0, .slice none 0 0, .slice none 0 0, .slice none 0 0, .bool false, .int .i64 0] 35)).alloc (.cells #[.int .i64 size, .slice none 0 0, .slice none 0 0, .slice none 0 0, .bool down, .int .i64 bud] 35)) :=
    ((Below.refl _ _).alloc (by simp) _).alloc (by simp) _
  have b2 : Below (w.heap.size + 2) ((w.alloc (.cells #[.int .i64 size, .slice aA n cA, .slice aW n cW, .slice aF n cF, .bool down, .int .i64 bud] 35)).alloc (.cells #[.int .i64 0, .slice none 0 0, .slice none 0 0, .slice none 0 0, .bool false, .int .i64 0] 35)) (((w.alloc (.cells #[.int .i64 size, .slice aA n cA, .slice aW n cW, .slice aF n cF, .bool down, .int .i64 bud] 35)).alloc (.cells #[.int .i64 0, .slice none 0 0, .slice none 0 0, .slice none 0 0, .bool false, .int .i64 0] 35)).alloc (.cells #[.int .i64 size, .slice none 0 0, .slice none 0 0, .slice none 0 0, .bool down, .int .i64 bud] 35)) :=
    (Below.refl _ _).alloc (by simp) _
  refine ⟨⟨(((Below.refl _ _).alloc (Nat.le_refl _) _).alloc (by simp) _).alloc (by simp; omega) _, by simp, ?_, ?_, ?_, ?_⟩, OwnL.nil _ _ _ _ _, OwnL.nil _ _ _ _ _, OwnL.nil _ _ _ _ _⟩
  · exact rangeAt_below (range_cells w w.heap.size rfl [.int .i64 size, .slice aA n cA, .slice aW n cW, .slice aF n cF, .bool down, .int .i64 bud] 35) b1 (by omega)
  · exact there_below (there_cells (w.alloc _) (w.heap.size + 1) (by simp) #[.int .i64 0, .slice none 0 0, .slice none 0 0, .slice none 0 0, .bool false, .int .i64 0] 35) b2 (by omega)
  · exact range_cells _ _ (by simp) [.int .i64 size, .slice none 0 0, .slice none 0 0, .slice none 0 0, .bool down, .int .i64 bud] 35
  · exact there_cells _ _ (by simp) #[.int .i64 size, .slice none 0 0, .slice none 0 0, .slice none 0 0, .bool down, .int .i64 bud] 35
set_option maxRecDepth 10000 in
set_option maxHeartbeats 1000000 in
theorem rsettle_any (size bud : Int) (down : Bool) (aA aW aF : Option Addr) (cA cW cF n : Nat) (L : List RfL) (hn : L.length = n) (hnm : n ≤ 1000) (h64 : ∀ y ∈ L, y.2.1.length = 64) (m : Int) (hm : 0 ≤ m ∧ m ≤ 18446744073709551615)
    (w : World) (hrA : RowOf (Value.int .i64) w aA cA (L.map (·.1))) (hrW : RowN 64 cellsB w aW cW (L.map (·.2.1))) (hrF : RowOf Value.bool w aF cF (L.map (·.2.2))) :
    Calls Tryd.prog 12 #[.agg #[.int .i64 size, .slice aA n cA, .slice aW n cW, .slice aF n cF, .bool down, .int .i64 bud], .int .u64 m] w fun e w' =>
      ∃ aA' aW' aF' cA' cW' cF', e = .returned (.agg #[.int .i64 size, .slice aA' (stl m L).2.length cA', .slice aW' (stl m L).2.length cW', .slice aF' (stl m L).2.length cF', .bool down, .int .i64 bud]) ∧
        RowOf (Value.int .i64) w' aA' cA' ((stl m L).2.map (·.1)) ∧ RowN 64 cellsB w' aW' cW' ((stl m L).2.map (·.2)) ∧ RowOf Value.bool w' aF' cF' ((stl m L).2.map fun _ => true) ∧ Below w.heap.size w w' ∧ (∀ ad, aA' = some ad → w.heap.size ≤ ad.block) ∧ (∀ ad, aW' = some ad → w.heap.size ≤ ad.block) ∧ (∀ ad, aF' = some ad → w.heap.size ≤ ad.block) := by
  have KI := Lib.hid (info_parts infoI)
  have KB := Lib.hid (info_parts infoBl)
  have KA := Lib.hid (info_parts infoAr)
  have HN := Lib.hid hn
  have H64 := Lib.hid h64
  have HA := Lib.hid hrA
  have HW := Lib.hid hrW
  have HF := Lib.hid hrF
  have HMM := Lib.hid hm
  clear hn h64 hrA hrW hrF hm
  obtain ⟨x, hx⟩ : ∃ x, x = w.heap.size := ⟨_, rfl⟩
  have HX := Lib.hid hx
  go_enter Tryd.func12, Tryd.ntmps12
  have HO0 := Lib.hid (StO.start w size bud down aA aW aF cA cW cF n)
  rw [← hx] at HO0
  go_wp2_with fail
  generalize (((w.alloc (.cells #[.int .i64 size, .slice aA n cA, .slice aW n cW, .slice aF n cF, .bool down, .int .i64 bud] 35)).alloc (.cells #[.int .i64 0, .slice none 0 0, .slice none 0 0, .slice none 0 0, .bool false, .int .i64 0] 35)).alloc (.cells #[.int .i64 size, .slice none 0 0, .slice none 0 0, .slice none 0 0, .bool down, .int .i64 bud] 35)) = W0 at *
  rw [← hx]
  clear hx
  obtain ⟨dcs, hdcs⟩ : ∃ dcs : List Value, dcs = [.int .i64 size, .slice aA n cA, .slice aW n cW, .slice aF n cF, .bool down, .int .i64 bud] := ⟨_, rfl⟩
  rw [← hdcs] at HO0
  have HDC := Lib.hid hdcs
  clear hdcs
  go_loopg [6, 7, 8, 9, 10] n (fun gg v6 v7 _ _ _ wx => ∃ (k : Nat) (vA vW vF : Value), v6 = .int .i64 ((stl m (L.take k)).1 : Int) ∧ v7 = .int .i64 (k : Int) ∧ k + gg = n ∧ Hid (StO w x dcs size bud down vA vW vF (stl m (L.take k)).2 wx))
  case atStart => exact ⟨0, _, _, _, rfl, rfl, by omega, HO0⟩
  case round =>
    clear HO0
    obtain ⟨k, vA, vW, vF, rfl, rfl, hk, HS⟩ := hrel
    obtain ⟨cnt, hcnt⟩ : ∃ cnt, cnt = (stl m (L.take k)).1 := ⟨_, rfl⟩
    obtain ⟨o, ho⟩ : ∃ o, o = (stl m (L.take k)).2 := ⟨_, rfl⟩
    have hle := stl_le m (L.take k)
    rw [← hcnt, ← ho] at hle
    have hlk : (L.take k).length ≤ k := by simp; omega
    rw [← ho] at HS
    rw [← hcnt]
    have hck : cnt ≤ k ∧ o.length ≤ k := by omega
    have HCO : Hid (stl m (L.take k) = (cnt, o)) := Prod.ext hcnt.symm ho.symm
    clear hcnt ho hle hlk
    have c1 : wr.cell? ⟨x, 1, none⟩ = some (.slice aA n cA) := HS.out.st.boxAt (by rw [HDC.out]; rfl)
    by_cases hlt : k < n
    · have hlt' : (k : Int) < (n : Int) := by omega
      have hw1 : IntKind.i64.wrap ((k : Int) + 1) = (k : Int) + 1 := IntWalk.i64_in _ (by omega)
      have hw2 : IntKind.i64.wrap ((cnt : Int) + 1) = (cnt : Int) + 1 := IntWalk.i64_in _ (by omega)
      have hkl : k < L.length := by have := HN.out; omega
      obtain ⟨y, hy⟩ : ∃ y, L[k]? = some y := ⟨_, List.getElem?_eq_getElem hkl⟩
      have hbel : Below w.heap.size w wr := HX.out ▸ HS.out.st.below
      have hcF : ∃ bF offF, aF = some ⟨bF, offF, none⟩ ∧ wr.cell? ⟨bF, offF + k, none⟩ = some (.bool y.2.2) := by
        obtain ⟨bF, offF, z, e1, e2, _, e4⟩ := HF.out.at hbel (k := k) (by simpa using hkl)
        refine ⟨bF, offF, e1, ?_⟩
        rw [List.drop_eq_getElem_cons (by simpa using hkl)] at e4
        injection e4 with e4 _
        rw [e2, ← e4]
        have : L[k] = y := by rw [List.getElem?_eq_getElem hkl] at hy; injection hy
        simp [this]
      have hcA : ∃ bA offA, aA = some ⟨bA, offA, none⟩ ∧ wr.cell? ⟨bA, offA + k, none⟩ = some (.int .i64 y.1) ∧ bA < w.heap.size := by
        rcases HA.out.2 with h0 | ⟨bA, offA, rfl, hlt2, hc⟩
        · rw [List.map_eq_nil_iff] at h0
          rw [h0] at hkl
          simp at hkl
        · exact ⟨bA, offA, rfl, (hbel.cell (p := ⟨bA, offA + k, none⟩) hlt2).trans (hc k y.1 (by rw [List.getElem?_map, hy]; rfl)), hlt2⟩
      have hcW : ∃ bW offW, aW = some ⟨bW, offW, none⟩ ∧ wr.rangeAt bW (offW + k * 64) (cellsB y.2.1) ∧ bW < w.heap.size := by
        rcases HW.out.2 with h0 | ⟨bW, offW, rfl, hlt2, hc⟩
        · rw [List.map_eq_nil_iff] at h0
          rw [h0] at hkl
          simp at hkl
        · exact ⟨bW, offW, rfl, rangeAt_below (hc k y.2.1 (by rw [List.getElem?_map, hy]; rfl)) hbel hlt2, hlt2⟩
      have hy64 := H64.out y (List.mem_of_getElem? hy)
      have htk : L.take (k + 1) = L.take k ++ [y] := by rw [List.take_add_one, hy]; rfl
      have HST := Lib.hid (show stl m (L.take (k + 1)) = stlF m (cnt, o) y by rw [htk, stl_snoc, HCO.out])
      obtain ⟨bF, offF, rfl, hcF⟩ := hcF
      obtain ⟨bA, offA, rfl, hcA, hbA⟩ := hcA
      obtain ⟨bW, offW, rfl, hcW, hbW⟩ := hcW
      have c3 : wr.cell? ⟨x, 3, none⟩ = some (.slice (some ⟨bF, offF, none⟩) n cF) := HS.out.st.boxAt (by rw [HDC.out]; rfl)
      have HCA := Lib.hid hcA
      have HCW := Lib.hid hcW
      have HBA := Lib.hid hbA
      have HBW := Lib.hid hbW
      clear hy htk hbel hkl hcA hcW hbA hbW
      go_upto_if 31 with fail
      go_cut [6, 8, 9, 10] from 18 to 71 (fun v6 v8 _ _ wc => ∃ (kb : Bool) (cnt' : Nat), v6 = .int .i64 (cnt' : Int) ∧ v8 = .bool kb ∧ wr = wc ∧ cnt' ≤ k + 1 ∧ Hid (stlF m (cnt, o) y = (cnt', if kb then o ++ [(y.1, y.2.1)] else o)))
      case first =>
        cases hf : y.2.2 with
        | true =>
          rw [hf] at hcF
          go_wp2_with fail
          go_meet
          exact ⟨true, cnt, rfl, rfl, rfl, by omega, by unfold stlF; rw [hf]; rfl⟩
        | false =>
          rw [hf] at hcF
          have HFF := Lib.hid hf
          clear hf
          go_wp2_with fail
          go_loopg [9, 10] (cnt % 64) (fun g2 v9 v10 wx => ∃ j : Nat, v9 = .int .u64 (m / 2 ^ j) ∧ v10 = .int .i64 (j : Int) ∧ j + g2 = cnt % 64 ∧ wr = wx)
          case atStart => exact ⟨0, by simp, rfl, by omega, rfl⟩
          case round =>
            obtain ⟨j, rfl, rfl, hj, rfl⟩ := hrel
            by_cases hjc : j < cnt % 64
            · have hj' : (j : Int) < (cnt : Int) % 64 := by omega
              have hwj : IntKind.i64.wrap ((j : Int) + 1) = (j : Int) + 1 := IntWalk.i64_in _ (by omega)
              have hd3 : IntKind.u64.wrap (m / 2 ^ (j + 1)) = m / 2 ^ (j + 1) := by
                rw [IntKind.wrap_u64]
                have h1 : 0 ≤ m / 2 ^ (j + 1) := Int.ediv_nonneg HMM.out.1 (Int.le_of_lt (Int.pow_pos (by decide)))
                have h2 : m / 2 ^ (j + 1) ≤ m := Int.ediv_le_self _ HMM.out.1
                have h3 := HMM.out.2
                omega
              have hd2 : (m / 2 ^ j).tdiv 2 = m / 2 ^ (j + 1) := by
                rw [Int.tdiv_eq_ediv_of_nonneg (Int.ediv_nonneg HMM.out.1 (Int.le_of_lt (Int.pow_pos (by decide)))), Int.ediv_ediv_of_nonneg (Int.le_of_lt (Int.pow_pos (by decide)))]
                rfl
              go_wp2_with fail
              go_roundg (gk - 1)
              case measure => omega
              case rel => exact ⟨j + 1, rfl, by simp, by omega, rfl⟩
            · have hj' : ¬ (j : Int) < (cnt : Int) % 64 := by omega
              have hjc2 : j = cnt % 64 := by omega
              have hbo : ((m / 2 ^ j).tmod 2 == 1) = bitOn m ((cnt % 64 : Nat) : Int) := by
                rw [Int.tmod_eq_emod_of_nonneg (Int.ediv_nonneg HMM.out.1 (Int.le_of_lt (Int.pow_pos (by decide)))), hjc2]
                rfl
              clear hjc2
              go_wp2_with fail
              go_meet
              exact ⟨bitOn m ((cnt % 64 : Nat) : Int), cnt + 1, by simp, by first | rfl | rw [hbo], rfl, by omega, by unfold stlF; rw [HFF.out]; rfl⟩
      case rest =>
        obtain ⟨kb, cnt', rfl, rfl, rfl, hc', HSF⟩ := hcut
        cases hkb : kb with
        | false =>
          rw [hkb] at HSF
          go_wp2_with fail
          go_roundg (n - (k + 1))
          case measure => omega
          case rel => exact ⟨k + 1, vA, vW, vF, by rw [HST.out, HSF.out], by simp, by omega, by rw [HST.out, HSF.out]; exact HS.out⟩
        | true =>
          rw [hkb] at HSF
          clear hkb c3 hcF
          have hsz := HS.out.st.size
          have hx3 : x + 1 + 1 < wr.heap.size := by omega
          have d1 := HS.out.st.outAt (j := 1) rfl
          have f1 := HS.out.st.frozen (j := 1) (by decide)
          have hcA := HCA.out
          obtain ⟨aA1, cA1, hvA, _⟩ := owns_val HS.out.ints
          obtain ⟨aW1, cW1, hvW, _⟩ := owns_val HS.out.pages
          obtain ⟨aF1, cF1, hvF, _⟩ := owns_val HS.out.bools
          subst hvA hvW hvF
          have HX3 := Lib.hid hx3
          have hof : o.length ≤ 1000 := by omega
          have HOF := Lib.hid hof
          have hwB : x + 3 ≤ wr.heap.size := hsz
          have HWB := Lib.hid hwB
          clear hof hwB hsz
          have hx23 : x + 1 + 1 < x + 3 := by omega
          have HO := Lib.hid HS.out
          obtain ⟨iI, hiI⟩ := KI.out
          obtain ⟨iA, hiA⟩ := KA.out
          obtain ⟨iB, hiB⟩ := KB.out
          have HiI := Lib.hid hiI
          have HiA := Lib.hid hiA
          have HiB := Lib.hid hiB
          clear hiI hiA hiB
          have HD1 := Lib.hid d1
          have HF1 := Lib.hid f1
          go_wp2_with fail
          go_cut [] from 18 to 71 (fun wc => ∃ aA2 cA2, Hid (StS w wc x dcs [.int .i64 size, .slice aA2 (o.length + 1) cA2, .slice aW1 o.length cW1, .slice aF1 o.length cF1, .bool down, .int .i64 bud] ∧ OwnL wc (x + 3) 3 1 (fun y : WrL => [.int .i64 y.1]) (.slice aA2 (o.length + 1) cA2) (o ++ [(y.1, y.2.1)]) ∧ OwnL wc (x + 3) 36 64 (fun y : WrL => cellsB y.2) (.slice aW1 o.length cW1) o ∧ OwnL wc (x + 3) 4 1 (fun _ : WrL => [.bool true]) (.slice aF1 o.length cF1) o ∧ Below x wr wc))
          case first =>
            go_region_law
              (first
                | (refine step_own2 (f := fun y : WrL => [.int .i64 y.1]) (by rfl) _ _ (by rfl) Tryd.underlying31 HiI.out rfl (by decide) (B := x + 3) (.slice aA1 o.length cA1) o (y.1, y.2.1) rfl (fun u hu => by rw [List.mem_singleton.1 hu]; rfl) HOF.out (by decide) (by rfl) (by rfl) HO.out.ints HWB.out ?_; intro aA2 cA2 w6 ho6 hb6 hk6 hs6; have d6 := (hb6.cell (p := ⟨x + 1 + 1, 1, none⟩) hx23).trans HD1.out; have f6 := (hb6.frozen (p := ⟨x + 1 + 1, 1, none⟩) hx23).trans HF1.out))
            all_goals
              go_wp2_with fail
              go_meet
              exact ⟨aA2, cA2, (HO.out.st.step hb6).put 1 (by simp) _, ho6.beside (p := ⟨x + 1 + 1, 1, none⟩) hx23 _, (OwnL.apart HO.out.ints HO.out.pages (by decide) hk6).beside (p := ⟨x + 1 + 1, 1, none⟩) hx23 _, (OwnL.apart HO.out.ints HO.out.bools (by decide) hk6).beside (p := ⟨x + 1 + 1, 1, none⟩) hx23 _, (hb6.mono (by omega)).setCell (p := ⟨x + 1 + 1, 1, none⟩) (by show x ≤ x + 1 + 1; omega) _⟩
          case rest =>
            obtain ⟨aA2, cA2, HC⟩ := hcut
            clear d1 f1 hcA c1 HD1 HF1 hx3
            have hbWx : bW < x := HX.out ▸ HBW.out
            have hcW := rangeAt_below HCW.out HC.out.2.2.2.2 hbWx
            have c2 : wc.cell? ⟨x, 2, none⟩ = some (.slice (some ⟨bW, offW, none⟩) n cW) := HC.out.1.boxAt (by rw [HDC.out]; rfl)
            have d2 := HC.out.1.outAt (j := 2) rfl
            have HD2 := Lib.hid d2
            have HF2 := Lib.hid (HC.out.1.frozen (j := 2) (by decide))
            have q1 : IsPg wc.drew bW (offW + k * 64) := isPg hcW hy64
            have q2 : pgAt wc.drew bW (offW + k * 64) = y.2.1 := pgAt_eq (w := wc.drew) hcW hy64
            have q3 := isPv_agg hy64
            have hx3 : x + 1 + 1 < wc.heap.size := by have := HC.out.1.size; omega
            have hbWc : bW < wc.heap.size := by omega
            have hy64c : (cellsB y.2.1).length = 64 := by rw [cellsB_len, hy64]
            have HY64 := Lib.hid hy64c
            clear hcW hbWx hy64c
            go_wp2_with fail
            go_cut [] from 18 to 71 (fun wd => ∃ aW2 cW2, Hid (StS w wd x dcs [.int .i64 size, .slice aA2 (o.length + 1) cA2, .slice aW2 (o.length + 1) cW2, .slice aF1 o.length cF1, .bool down, .int .i64 bud] ∧ OwnL wd (x + 3) 3 1 (fun y : WrL => [.int .i64 y.1]) (.slice aA2 (o.length + 1) cA2) (o ++ [(y.1, y.2.1)]) ∧ OwnL wd (x + 3) 36 64 (fun y : WrL => cellsB y.2) (.slice aW2 (o.length + 1) cW2) (o ++ [(y.1, y.2.1)]) ∧ OwnL wd (x + 3) 4 1 (fun _ : WrL => [.bool true]) (.slice aF1 o.length cF1) o))
            case first =>
              go_region_law
                (first
                  | (refine step_own2 (f := fun y : WrL => cellsB y.2) (by rfl) _ _ (by rfl) Tryd.underlying32 HiA.out zpg_cells (by decide) (B := x + 3) (.slice aW1 o.length cW1) o (y.1, y.2.1) HY64.out (cellsB_one _) HOF.out (by decide) (by rfl) (by rfl) HC.out.2.2.1 HC.out.1.size ?_; intro aW2 cW2 w6 ho6 hb6 hk6 hs6; have d6 := (hb6.cell (p := ⟨x + 1 + 1, 2, none⟩) hx23).trans HD2.out; have f6 := (hb6.frozen (p := ⟨x + 1 + 1, 2, none⟩) hx23).trans HF2.out))
              all_goals
                go_wp2_with fail
                go_meet
                exact ⟨aW2, cW2, (HC.out.1.step hb6).put 2 (by simp) _, (OwnL.apart HC.out.2.2.1 HC.out.2.1 (by decide) hk6).beside (p := ⟨x + 1 + 1, 2, none⟩) hx23 _, ho6.beside (p := ⟨x + 1 + 1, 2, none⟩) hx23 _, (OwnL.apart HC.out.2.2.1 HC.out.2.2.2.1 (by decide) hk6).beside (p := ⟨x + 1 + 1, 2, none⟩) hx23 _⟩
            case rest =>
              obtain ⟨aW2, cW2, HE⟩ := hcut
              clear d2 HD2 HF2 q1 q2 q3 c2 hx3 hbWc
              have d3 := HE.out.1.outAt (j := 3) rfl
              have hx3 : x + 1 + 1 < wc.heap.size := by have := HE.out.1.size; omega
              go_wp2_with (at_builtin; refine Stopped.go ?_)
              unfold Stopped
              refine wl_own2 (f := fun _ : WrL => [.bool true]) (by rfl) _ _ (by rfl) Tryd.underlying33 HiB.out rfl (by decide) (B := x + 3) (.slice aF1 o.length cF1) o (y.1, y.2.1) rfl (fun u hu => by rw [List.mem_singleton.1 hu]; rfl) HOF.out (by decide) (by rfl) (by rfl) HE.out.2.2.2 HE.out.1.size ?_
              intro aF2 cF2 w6 ho6 hb6 hk6 hs6
              have d6 := (hb6.cell (p := ⟨x + 1 + 1, 3, none⟩) hx23).trans d3
              have f6 := (hb6.frozen (p := ⟨x + 1 + 1, 3, none⟩) hx23).trans (HE.out.1.frozen (j := 3) (by decide))
              have HS7 : Hid (StO w x dcs size bud down (.slice aA2 (o.length + 1) cA2) (.slice aW2 (o.length + 1) cW2) (.slice aF2 (o.length + 1) cF2) (o ++ [(y.1, y.2.1)]) (w6.setCell ⟨x + 1 + 1, 3, none⟩ (.slice aF2 (o.length + 1) cF2))) :=
                ⟨(HE.out.1.step hb6).put 3 (by simp) _, (OwnL.apart HE.out.2.2.2 HE.out.2.1 (by decide) hk6).beside (p := ⟨x + 1 + 1, 3, none⟩) hx23 _, (OwnL.apart HE.out.2.2.2 HE.out.2.2.1 (by decide) hk6).beside (p := ⟨x + 1 + 1, 3, none⟩) hx23 _, ho6.beside (p := ⟨x + 1 + 1, 3, none⟩) hx23 _⟩
              clear ho6 hb6 hk6 hs6 d3
              go_wp2_with fail
              go_roundg (n - (k + 1))
              case measure => omega
              case rel => exact ⟨k + 1, _, _, _, by rw [HST.out, HSF.out], by simp, by omega, by rw [HST.out, HSF.out]; exact HS7.out⟩
    · have hlt' : ¬ (k : Int) < (n : Int) := by omega
      have hL : L.take k = L := List.take_of_length_le (by have := HN.out; omega)
      obtain ⟨aA1, cA1, hvA, hbA⟩ := owns_val HS.out.ints
      obtain ⟨aW1, cW1, hvW, hbW⟩ := owns_val HS.out.pages
      obtain ⟨aF1, cF1, hvF, hbF⟩ := owns_val HS.out.bools
      subst hvA hvW hvF
      have ho : o = (stl m L).2 := by
        have := HCO.out
        rw [hL] at this
        rw [this]
      clear hbA hbW hbF
      have hone9 : ∀ u ∈ [Value.int .i64 size, .slice aA1 o.length cA1, .slice aW1 o.length cW1, .slice aF1 o.length cF1, .bool down, .int .i64 bud], u.oneCell' = true := by simp [Value.oneCell']
      have HH := Lib.hid hone9
      have HOO := Lib.hid ho
      clear hone9 ho hL
      go_wp2_with (first | (refine wpList_load_mid (by rfl) 35 _ (by rfl) (x + 1 + 1) 0 (by rfl) [.int .i64 size, .slice aA1 o.length cA1, .slice aW1 o.length cW1, .slice aF1 o.length cF1, .bool down, .int .i64 bud] _ HS.out.st.out Tryd.underlying35 rfl rdSize ?_) | (refine wpList_store_mid (by rfl) 35 _ _ (by rfl) (x + 1) 0 #[.int .i64 size, .slice aA1 o.length cA1, .slice aW1 o.length cW1, .slice aF1 o.length cF1, .bool down, .int .i64 bud] (by rfl) (by rfl) HS.out.st.res rdSize (all_oneCell_toArray HH.out) ?_))
      have hrg := World.rangeAt_setCells_same wr (x + 1) 0 [.int .i64 size, .slice aA1 o.length cA1, .slice aW1 o.length cW1, .slice aF1 o.length cF1, .bool down, .int .i64 bud] HS.out.st.res
      have hld := run_loadVar_mid _ (x + 1) 0 35 _ _ hrg Tryd.underlying35 rfl rdSize
      have hoA : wr.ownsRow (x + 3) 3 1 (.slice aA1 o.length cA1) (o.map (·.1)).length ((o.map (·.1)).map (Value.int .i64)) := by
        have := HS.out.ints
        unfold OwnL at this
        rw [flat_one (fun y : WrL => Value.int .i64 y.1)] at this
        rw [List.length_map, List.map_map]
        exact this
      have hoW : wr.ownsRow (x + 3) 36 64 (.slice aW1 o.length cW1) (o.map (·.2)).length ((o.map (·.2)).flatMap cellsB) := by
        have := HS.out.pages
        unfold OwnL at this
        rw [flat_snd] at this
        rw [List.length_map]
        exact this
      have hoF : wr.ownsRow (x + 3) 4 1 (.slice aF1 o.length cF1) (o.map fun _ => true).length ((o.map fun _ => true).map Value.bool) := by
        have := HS.out.bools
        unfold OwnL at this
        rw [flat_one (fun _ : WrL => Value.bool true)] at this
        rw [List.length_map, List.map_map]
        exact this
      obtain ⟨a1, k1, e1, r1, s1⟩ := rowOf_owns hoA
      obtain ⟨a2, k2, e2, r2, s2⟩ := rowN_owns (fun y hy => by
        obtain ⟨z, hz, rfl⟩ := List.mem_map.1 hy
        rw [HOO.out] at hz
        obtain ⟨u, hu, rfl⟩ := stl_mem m L z hz
        rw [cellsB_len]
        exact H64.out u hu) hoW
      obtain ⟨a3, k3, e3, r3, s3⟩ := rowOf_owns hoF
      rw [List.length_map] at e1 e2 e3
      cases e1
      cases e2
      cases e3
      refine bodyPost_ret (v := .agg #[.int .i64 size, .slice aA1 o.length cA1, .slice aW1 o.length cW1, .slice aF1 o.length cF1, .bool down, .int .i64 bud]) ?_ rfl ?_
      · rw [results_cell rfl]
        simp [asAddr, Result.andThen, hld]
      · rw [← HOO.out]
        exact ⟨aA1, aW1, aF1, cA1, cW1, cF1, rfl, RowOf.sets (fun ad e => by have := s1 ad e; omega) r1 _ _, RowN.sets (fun ad e => by have := s2 ad e; omega) r2 _ _, RowOf.sets (fun ad e => by have := s3 ad e; omega) r3 _ _, HX.out ▸ below_cells HS.out.st.below (by omega) _ _, fun ad e => by have := s1 ad e; have := HX.out; omega, fun ad e => by have := s2 ad e; have := HX.out; omega, fun ad e => by have := s3 ad e; have := HX.out; omega⟩
end Go.Proofs.YtgjakhfmjnpkcaaDoor
