/-
  Contracts of slices.IndexFunc and slices.DeleteFunc at a row of writes that aren't firm, with the landed Write's own closure (writes of one bit). Conditions: as each says.
-/
import Derived.Test.YtpimclhdimcioaaDoorS5Small
import Derived.Test.YtpimclhdimcioaaDoorBuild5
import Derived.Test.YtpimclhdimcioaaDoorRowSet
import Derived.WalkArith
namespace Go.Proofs.YtpimclhdimcioaaDoor
open Go.RowKit Go.Maps

attribute [local go_sem ↓] ldw_pg stw_pg ldw_wr stw_wr alw_wr alw_pg
attribute [local go_sem] isPgV_ptr pgAtV_ptr thereV_ptr setV_ptr cellsV_agg isWrV_ptr wrAtV_ptr thereW_ptr cellsV_wr

set_option maxRecDepth 10000 in
theorem same_any (x : WrL) {B : Nat} {bit : Int} {w : World} (hB : w.cell? ⟨B, 0, none⟩ = some (.int .i64 bit)) :
    Calls Tryd.prog 29 #[.agg (wCells x).toArray, .pointer (some ⟨B, 0, none⟩)] w fun e w' => e = .returned (.bool (x.1 == bit)) ∧ Below w.heap.size w w' := by
  have hlt : B < w.heap.size := World.block_lt_of_cell? w _ hB
  have c0 : (w.alloc (.cells (wCells x).toArray 70)).cell? ⟨w.heap.size, 0, none⟩ = some (.int .i64 x.1) := bit_in (range_cells w w.heap.size rfl (wCells x) 70)
  have c1 : (w.alloc (.cells (wCells x).toArray 70)).cell? ⟨B, 0, none⟩ = some (.int .i64 bit) := (((Below.refl w.heap.size _).alloc (Nat.le_refl _) _).cell (p := ⟨B, 0, none⟩) hlt).trans hB
  have hb : Below w.heap.size w (w.alloc (.cells (wCells x).toArray 70)) := (Below.refl _ _).alloc (Nat.le_refl _) _
  have HB := Lib.hid hb
  clear hB hlt hb
  go_enter Tryd.func29, Tryd.ntmps29
  go_wp2
  go_ret
  exact ⟨rfl, HB.out⟩

/-- The row's j-th write, for the walk. -/
theorem row_wr {w : World} {B g n cap : Nat} {l : List WrL} (h64 : ∀ x ∈ l, x.2.length = 64) (h : w.ownsRow B 70 65 (.slice (some ⟨g, 0, none⟩) n cap) n (l.flatMap wCells)) {j : Nat} {x : WrL} (hx : l[j]? = some x) : IsWr w g (j * 65) ∧ wrAt w g (j * 65) = x := by
  have hr := (row_at h64 h hx).1
  have hl := h64 x (List.mem_of_getElem? hx)
  exact ⟨isWr hr hl, wrAt_eq hr hl⟩
theorem owns_below {w w' : World} {B : Nat} {e : TypeId} {C : Nat} {g n cap : Nat} {xs : List Value} (h : w.ownsRow B e C (.slice (some ⟨g, 0, none⟩) n cap) n xs) (hb : Below w.heap.size w w') : w'.ownsRow B e C (.slice (some ⟨g, 0, none⟩) n cap) n xs :=
  owns_block h (hb.block g (owns_lt h).1)

/-- None of them is of that bit. -/
def noBit (bit : Int) (l : List WrL) : Prop := ∀ x ∈ l, (x.1 == bit) = false
set_option maxRecDepth 10000 in
set_option maxHeartbeats 1000000 in
theorem idx_any {w : World} {g cap : Nat} {l : List WrL} (h64 : ∀ x ∈ l, x.2.length = 64) (hf : l.length ≤ 1000000) (h : w.ownsRow 0 70 65 (.slice (some ⟨g, 0, none⟩) l.length cap) l.length (l.flatMap wCells))
    {B : Nat} {bit : Int} (hB : w.cell? ⟨B, 0, none⟩ = some (.int .i64 bit)) :
    Calls Tryd.prog 38 #[.slice (some ⟨g, 0, none⟩) l.length cap, .func (.func 29) #[] #[.pointer (some ⟨B, 0, none⟩)]] w fun e w' => ∃ r : Int, e = .returned (.int .i64 r) ∧ Below w.heap.size w w' ∧ ((r = -1 ∧ noBit bit l) ∨ ∃ (k : Nat) (x : WrL), r = (k : Int) ∧ l[k]? = some x ∧ (x.1 == bit) = true ∧ noBit bit (l.take k)) := by
  have hlt : B < w.heap.size := World.block_lt_of_cell? w _ hB
  have H64 := Lib.hid h64
  have HO := Lib.hid h
  have HB := Lib.hid hB
  obtain ⟨n, hn⟩ : ∃ n, l.length = n := ⟨_, rfl⟩
  rw [hn] at hf HO
  rw [hn]
  clear h64 h hB
  go_enter Tryd.func38, Tryd.ntmps38
  go_wp2
  go_loopg [5, 8] n (fun gg _ v8 wx => ∃ k : Nat, v8 = .int .i64 (k : Int) ∧ k + gg = n ∧ Hid (Below w.heap.size w wx) ∧ Hid (noBit bit (l.take k)))
  case atStart => exact ⟨0, rfl, by omega, Below.refl _ _, by rw [List.take_zero]; intro y hy; cases hy⟩
  case round =>
    obtain ⟨k, rfl, hk, HW, HT⟩ := hrel
    by_cases hlt2 : k < n
    · have hlt' : (k : Int) < (n : Int) := by omega
      have hw : IntKind.i64.wrap ((k : Int) + 1) = (k : Int) + 1 := IntWalk.i64_in _ (by omega)
      obtain ⟨x, hx⟩ : ∃ x, l[k]? = some x := ⟨_, List.getElem?_eq_getElem (by omega)⟩
      have ho2 := owns_below HO.out HW.out
      obtain ⟨q1, q2⟩ := row_wr H64.out ho2 hx
      have HC := Lib.hid (same_any x ((HW.out.cell (p := ⟨B, 0, none⟩) hlt).trans HB.out))
      have htk : l.take (k + 1) = l.take k ++ [x] := by rw [List.take_add_one, hx]; rfl
      have HTK := Lib.hid htk
      have HX := Lib.hid hx
      clear ho2 htk hx
      cases hp : (x.1 == bit) with
      | true =>
        rw [hp] at HC
        have HP := Lib.hid hp
        clear hp
        go_wp2_with fail
        refine HC.out.mono ?_
        rintro e w' ⟨rfl, hb⟩
        have HB2 := Lib.hid hb
        clear hb q1 q2
        go_wp2
        go_ret
        exact ⟨_, rfl, HW.out.trans (HB2.out.mono HW.out.size), .inr ⟨k, x, rfl, HX.out, HP.out, HT.out⟩⟩
      | false =>
        rw [hp] at HC
        have HP := Lib.hid hp
        clear hp
        go_wp2_with fail
        refine HC.out.mono ?_
        rintro e w' ⟨rfl, hb⟩
        have HB2 := Lib.hid hb
        clear hb q1 q2
        go_wp2
        go_roundg (gk - 1)
        case measure => omega
        case rel => exact ⟨k + 1, by simp, by omega, HW.out.trans (HB2.out.mono HW.out.size), by
          rw [HTK.out]
          intro y hy
          rcases List.mem_append.1 hy with hy | hy
          · exact HT.out y hy
          · rw [List.mem_singleton.1 hy]; exact HP.out⟩
    · have hlt' : ¬ (k : Int) < (n : Int) := by omega
      have hL : l.take k = l := List.take_of_length_le (by omega)
      rw [hL] at HT
      go_wp2
      go_ret
      exact ⟨_, rfl, HW.out, .inl ⟨rfl, HT.out⟩⟩

def kp (bit : Int) (y : WrL) : Bool := !(y.1 == bit)
theorem kp_all {bit : Int} {l : List WrL} (h : noBit bit l) : l.filter (kp bit) = l := List.filter_eq_self.2 fun x hx => by simp only [kp, h x hx]; rfl
theorem zero_wr (w : World) : (zeroValue 70).run Tryd.prog w = .ok (.agg zwc) w := by kernel_rfl
theorem Fr.setCells {F : Nat → Prop} {w w' : World} (h : Fr F w w') {b : Nat} (hp : F b ∨ w.heap.size ≤ b) (o : Nat) (vs : List Value) : Fr F w (w'.setCells b o vs) := by
  induction vs generalizing w' o with
  | nil => exact h
  | cons v r ih => rw [World.setCells]; exact ih (h.setCell (p := ⟨b, o, none⟩) hp v) (o + 1)
theorem Fr.cell {F : Nat → Prop} {w w' : World} (h : Fr F w w') {p : Addr} {v : Value} (hc : w.cell? p = some v) (hp : ¬ F p.block) : w'.cell? p = some v := by
  have hlt := World.block_lt_of_cell? w _ hc
  have := h.block p.block hlt hp
  simpa [World.cell?, this] using hc

/-- A row under the work of DeleteFunc: what is kept of the first j stands first. -/
structure Part (bit : Int) (l M : List WrL) (i j : Nat) : Prop where
  len : M.length = l.length
  lt : i < j
  kept : M.take i = (l.take j).filter (kp bit)
  rest : M.drop j = l.drop j
  pg : ∀ x ∈ M, x.2.length = 64
theorem Part.keep {bit : Int} {l M : List WrL} {i j : Nat} {x : WrL} (h : Part bit l M i j) (hx : l[j]? = some x) (hp : (x.1 == bit) = false) (h64 : x.2.length = 64) : Part bit l (M.set i x) (i + 1) (j + 1) := by
  have hj : j < l.length := (List.getElem?_eq_some_iff.1 hx).1
  have hi : i < M.length := by have := h.lt; have := h.len; omega
  have htk : l.take (j + 1) = l.take j ++ [x] := by rw [List.take_add_one, hx]; rfl
  refine ⟨by simpa using h.len, by have := h.lt; omega, ?_, ?_, fun y hy => ?_⟩
  · rw [htk, List.filter_append, ← h.kept, List.take_add_one, List.getElem?_set_self hi, List.take_set_of_le (Nat.le_refl _)]
    simp [kp, hp]
  · rw [List.drop_set_of_lt (by have := h.lt; omega), ← List.drop_drop, ← List.drop_drop, h.rest]
  · rcases List.mem_or_eq_of_mem_set hy with hy | rfl
    · exact h.pg y hy
    · exact h64
theorem Part.skip {bit : Int} {l M : List WrL} {i j : Nat} {x : WrL} (h : Part bit l M i j) (hx : l[j]? = some x) (hp : (x.1 == bit) = true) : Part bit l M i (j + 1) := by
  have htk : l.take (j + 1) = l.take j ++ [x] := by rw [List.take_add_one, hx]; rfl
  refine ⟨h.len, by have := h.lt; omega, ?_, ?_, h.pg⟩
  · rw [htk, List.filter_append, ← h.kept]
    simp [kp, hp]
  · rw [← List.drop_drop, ← List.drop_drop, h.rest]
theorem Part.get {bit : Int} {l M : List WrL} {i j : Nat} (h : Part bit l M i j) : M[j]? = l[j]? := by
  have := congrArg (·[0]?) h.rest
  simpa using this

set_option maxRecDepth 10000 in
set_option maxHeartbeats 2000000 in
theorem del_any {w : World} {g cap : Nat} {l : List WrL} (h64 : ∀ x ∈ l, x.2.length = 64) (hf : l.length ≤ 1000000) (h : w.ownsRow 0 70 65 (.slice (some ⟨g, 0, none⟩) l.length cap) l.length (l.flatMap wCells))
    {B : Nat} {bit : Int} (hB : w.cell? ⟨B, 0, none⟩ = some (.int .i64 bit)) (hne : B ≠ g) :
    Calls Tryd.prog 30 #[.slice (some ⟨g, 0, none⟩) l.length cap, .func (.func 29) #[] #[.pointer (some ⟨B, 0, none⟩)]] w fun e w' => e = .returned (.slice (some ⟨g, 0, none⟩) (l.filter (kp bit)).length cap) ∧ Fr (· = g) w w' ∧ w'.ownsRow 0 70 65 (.slice (some ⟨g, 0, none⟩) (l.filter (kp bit)).length cap) (l.filter (kp bit)).length ((l.filter (kp bit)).flatMap wCells) := by
  have hltB : B < w.heap.size := World.block_lt_of_cell? w _ hB
  have hltg : g < w.heap.size := (owns_lt h).1
  have hcap : l.length ≤ cap := by
    obtain ⟨_, ⟨h2, _⟩ | ⟨g', cap', cur, h2, _, _, h3, _⟩⟩ := h
    · cases h2
    · cases h2; exact h3
  have HI := Lib.hid (idx_any h64 hf h hB)
  have H64 := Lib.hid h64
  have HO := Lib.hid h
  have HB := Lib.hid hB
  obtain ⟨n, hn⟩ : ∃ n, l.length = n := ⟨_, rfl⟩
  rw [hn] at hf HO HI hcap
  rw [hn]
  have HN := Lib.hid hn
  clear h64 h hB hn
  go_enter Tryd.func30, Tryd.ntmps30
  go_wp2_with fail
  refine HI.out.mono ?_
  rintro e w1 ⟨r, rfl, hb1, hr⟩
  have HB1 := Lib.hid hb1
  have HR := Lib.hid hr
  clear hb1 hr HI
  rcases HR.out with ⟨rfl, hno⟩ | ⟨k, x0, rfl, hx0, hp0, hno⟩
  · clear HR
    have HNO := Lib.hid hno
    clear hno
    go_wp2
    go_ret
    rw [kp_all HNO.out, HN.out]
    exact ⟨rfl, Fr.of_below HB1.out, owns_below HO.out HB1.out⟩
  · clear HR
    have hk : k < n := by have := (List.getElem?_eq_some_iff.1 hx0).1; have := HN.out; omega
    have hk1 : ((k : Int) == -1) = false := by simp
    have hw1 : IntKind.i64.wrap ((k : Int) + 1) = (k : Int) + 1 := IntWalk.i64_in _ (by omega)
    have HP0 : Hid (Part bit l l k (k + 1)) := by
      refine ⟨rfl, by omega, ?_, rfl, H64.out⟩
      rw [List.take_add_one, hx0, List.filter_append, kp_all hno]
      simp [kp, hp0]
    clear hx0 hp0 hno
    go_wp2
    go_loopg [5, 6, 7] (n - (k + 1)) (fun gg v5 v6 _ wx => ∃ (i j : Nat) (M : List WrL), v5 = .int .i64 (i : Int) ∧ v6 = .int .i64 (j : Int) ∧ j + gg = n ∧ Hid (Part bit l M i j) ∧ Hid (Fr (· = g) w wx) ∧ Hid (wx.ownsRow 0 70 65 (.slice (some ⟨g, 0, none⟩) n cap) n (M.flatMap wCells)))
    case atStart => exact ⟨k, k + 1, l, rfl, rfl, by omega, HP0, Fr.of_below HB1.out, owns_below HO.out HB1.out⟩
    case round =>
      clear HP0 hk hk1 hw1
      obtain ⟨i, j, M, rfl, rfl, hj, HP, HF, HW⟩ := hrel
      by_cases hlt : j < n
      · have hlt' : (j : Int) < (n : Int) := by omega
        have hij := HP.out.lt
        have hin : (i : Int) < (n : Int) := by omega
        have hw1 : IntKind.i64.wrap ((j : Int) + 1) = (j : Int) + 1 := IntWalk.i64_in _ (by omega)
        have hw2 : IntKind.i64.wrap ((i : Int) + 1) = (i : Int) + 1 := IntWalk.i64_in _ (by omega)
        obtain ⟨x, hx⟩ : ∃ x, l[j]? = some x := ⟨_, List.getElem?_eq_getElem (by have := HN.out; omega)⟩
        have hx64 : x.2.length = 64 := H64.out x (List.mem_of_getElem? hx)
        obtain ⟨q1, q2⟩ := row_wr HP.out.pg HW.out (HP.out.get.trans hx)
        have q3 := isWv_agg hx64
        have q4 := there_zw wr 70
        have q5 := set_zw (w := wr) (N := wr.heap.size) rfl (t := 70) hx64
        obtain ⟨q6, q7⟩ := isWr_new wr wr.heap.size rfl 70 hx64
        have hbw : Below wr.heap.size wr (wr.alloc (.cells (wCells x).toArray 70)) := (Below.refl _ _).alloc (Nat.le_refl _) _
        have HBW := Lib.hid hbw
        have HX := Lib.hid hx
        have HC := Lib.hid (same_any (w := wr.alloc (.cells (wCells x).toArray 70)) x ((hbw.cell (p := ⟨B, 0, none⟩) (Nat.lt_of_lt_of_le hltB HF.out.size)).trans (HF.out.cell HB.out hne)))
        clear hx hbw hij
        cases hp : (x.1 == bit) with
        | false =>
          rw [hp] at HC
          have HPX := Lib.hid hp
          clear hp
          go_wp2_with fail
          refine HC.out.mono ?_
          rintro e w2 ⟨rfl, hb2⟩
          have HB2 := Lib.hid hb2
          have q8 : IsWr w2 wr.heap.size 0 ∧ wrAt w2 wr.heap.size 0 = x := by
            have hr := rangeAt_below (range_cells wr wr.heap.size rfl (wCells x) 70) hb2 (by simp)
            exact ⟨isWr hr hx64, wrAt_eq hr hx64⟩
          obtain ⟨q8, q9⟩ := q8
          have HW2 := Lib.hid (owns_below HW.out (HBW.out.trans (hb2.mono (by simp))))
          have q10 : w2.there g (i * 65) 65 := owns_there HW2.out (by have : (i + 1) * 65 ≤ cap * 65 := Nat.mul_le_mul_right _ (by omega); omega)
          clear hb2 q1 q2 q4 q5 q6 q7 HC
          go_wp2
          go_roundg (gk - 1)
          case measure => omega
          case rel =>
            refine ⟨i + 1, j + 1, M.set i x, by simp, by simp, by omega, HP.out.keep HX.out HPX.out hx64, ?_, ?_⟩
            · exact (HF.out.trans (Fr.of_below (F := (· = g)) (HBW.out.trans (HB2.out.mono (by simp)))) fun j hj => .inl hj).setCells (.inl rfl) _ _
            · have hC : ∀ y ∈ M, (wCells y).length = 65 := fun y hy => wCells_len (HP.out.pg y hy)
              rw [flat_set M hC i x (by have := HP.out.len; have := HN.out; omega) (wCells_len hx64)]
              have := owns_put HW2.out (i * 65) (wCells x) (by rw [wCells_len hx64]; have : (i + 1) * 65 ≤ n * 65 := Nat.mul_le_mul_right _ (by omega); omega)
              rw [wCells_len hx64] at this
              exact this
        | true =>
          rw [hp] at HC
          have HPX := Lib.hid hp
          clear hp
          go_wp2_with fail
          refine HC.out.mono ?_
          rintro e w2 ⟨rfl, hb2⟩
          have HB2 := Lib.hid hb2
          clear hb2 q1 q2 q4 q5 q6 q7 HC
          go_wp2
          go_roundg (gk - 1)
          case measure => omega
          case rel => exact ⟨i, j + 1, M, rfl, by simp, by omega, HP.out.skip HX.out HPX.out, HF.out.trans (Fr.of_below (F := (· = g)) (HBW.out.trans (HB2.out.mono (by simp)))) fun j hj => .inl hj, owns_below HW.out (HBW.out.trans (HB2.out.mono (by simp)))⟩
      · have hlt' : ¬ (j : Int) < (n : Int) := by omega
        have hij := HP.out.lt
        have hlen : M.take i = l.filter (kp bit) := by
          rw [HP.out.kept, List.take_of_length_le (by have := HN.out; omega)]
        have hil : i < n := by omega
        have hin : (i : Int) ≤ (n : Int) := by omega
        have hic : (i : Int) ≤ (cap : Int) := by omega
        have hic2 : ¬ cap = i := by omega
        have hth : wr.there g (i * 65) ((n - i) * 65) := owns_there HW.out (by
          have h1 : (i + (n - i)) * 65 ≤ cap * 65 := Nat.mul_le_mul_right _ (by omega)
          rw [Nat.add_mul] at h1
          exact h1)
        obtain ⟨vs, hvl, hrun⟩ := run_clear_any (P := Tryd.prog) wr 67 70 (.agg zwc) 65 Tryd.underlying67 zero_wr zwc_size (by decide) (by simpa [zwc, Value.cells] using wCells_one (0, zpg)) g (i * 65) (n - i) (cap - i) hth
        have HLN := Lib.hid hlen
        clear hth hvl hlen
        go_wp2
        go_ret
        have hli : (l.filter (kp bit)).length = i := by
          rw [← HLN.out, List.length_take]
          have := HP.out.len
          have := HN.out
          omega
        refine ⟨by rw [hli]; rfl, HF.out.setCells (.inl rfl) _ _, ?_⟩
        rw [hli, ← HLN.out, flat_take M (C := 65) (fun y hy => wCells_len (HP.out.pg y hy))]
        exact owns_cut HW.out (Nat.le_of_lt hil) vs
end Go.Proofs.YtpimclhdimcioaaDoor
