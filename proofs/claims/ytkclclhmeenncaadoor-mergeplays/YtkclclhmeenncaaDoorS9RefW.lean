/-
  Contracts of the document's own With and Without (package shaleref09): a rising list with an entry, and without one. Conditions: the list lies in memory, has at most 900 entries; With: its paths rise, and have at most 100000 bytes.
-/
import Derived.Test.YtkclclhmeenncaaDoorS9RefR
namespace Go.Proofs.YtkclclhmeenncaaDoor
open Go.RowKit

theorem filter_take {l : List Ent} (f : Ent → Bool) (k : Nat) (h : k < l.length) : (l.take (k + 1)).filter f = (l.take k).filter f ++ (if f l[k] then [l[k]] else []) := by
  rw [take_get l k h, List.filter_append, List.filter_cons]
  simp
theorem OwnE.grow {w w' : World} {B : Nat} (W : World) (hB : Below B W w) (hs : B ≤ w.heap.size) {v : Value} {l : List Ent} (h : OwnE w B v l) (hg : w.grownBy w' v.ownBlock) : Below B W w' := hB.grown hg hs fun k hk => (ownE_blk h k hk).1
theorem wth_append (a b : List Ent) (e : Ent) (hb : ∀ x ∈ b, lt8 (pl e) (pl x) = true) : wth (a ++ b) e = wth a e ++ b := by
  have h1 : b.filter (fun a => lt8 (pl a) (pl e)) = [] := List.filter_eq_nil_iff.2 fun x hx => by rw [lt8_asymm (hb x hx)]; simp
  have h2 : b.filter (fun a => lt8 (pl e) (pl a)) = b := List.filter_eq_self.2 hb
  unfold wth
  rw [List.filter_append, List.filter_append, h1, h2, List.append_nil, List.append_assoc]
  rfl
theorem wth_same (a : List Ent) (x e : Ent) (ha : ∀ y ∈ a, lt8 (pl y) (pl e) = true) (hx : pl x = pl e) : wth (a ++ [x]) e = a ++ [e] := by
  have h1 : a.filter (fun a => lt8 (pl a) (pl e)) = a := List.filter_eq_self.2 ha
  have h2 : a.filter (fun a => lt8 (pl e) (pl a)) = [] := List.filter_eq_nil_iff.2 fun y hy => by rw [lt8_asymm (ha y hy)]; simp
  unfold wth
  rw [List.filter_append, List.filter_append, h1, h2]
  simp [hx, lt8_irr]
theorem asc_drop {l : List Ent} (h : Asc l) (k : Nat) (hk : k < l.length) : ∀ y ∈ l.drop (k + 1), lt8 (pl l[k]) (pl y) = true := by
  have h2 : Asc (l.drop k) := List.Pairwise.sublist (List.drop_sublist _ _) h
  unfold Asc at h2
  rw [List.drop_eq_getElem_cons hk] at h2
  exact (List.pairwise_cons.1 h2).1
theorem filt_len {α : Type} (f g : α → Bool) (h : ∀ x, f x = true → g x = false) : ∀ l : List α, (l.filter f).length + (l.filter g).length ≤ l.length
  | [] => by simp
  | x :: r => by
    have ih := filt_len f g h r
    rw [List.filter_cons, List.filter_cons]
    cases hf : f x with
    | true =>
      rw [h x hf]
      simp
      omega
    | false =>
      cases g x <;> simp <;> omega
theorem wth_len (l : List Ent) (e : Ent) : (wth l e).length ≤ l.length + 1 := by
  have := filt_len (fun a => lt8 (pl a) (pl e)) (fun a => lt8 (pl e) (pl a)) (fun x hx => lt8_asymm hx) l
  unfold wth
  rw [List.length_append, List.length_cons]
  omega
/-- What With has made of the first k entries. -/
def WInv (l : List Ent) (e : Ent) (k : Nat) (o : List Ent) (zb : Bool) : Prop := (zb = false ∧ o = l.take k ∧ ∀ x ∈ l.take k, lt8 (pl x) (pl e) = true) ∨ (zb = true ∧ o = wth (l.take k) e ∧ ∀ x ∈ l.drop k, lt8 (pl e) (pl x) = true)
theorem WInv.len {l : List Ent} {e : Ent} {k : Nat} {o : List Ent} {zb : Bool} (h : WInv l e k o zb) : o.length ≤ k + 1 := by
  rcases h with ⟨_, rfl, _⟩ | ⟨_, rfl, _⟩
  · rw [List.length_take]; omega
  · have := wth_len (l.take k) e
    rw [List.length_take] at this
    omega
attribute [local go_sem ↓] old_ldi old_lds old_lde3
attribute [local go_sem] oldC_forall isC1_ptr isS1_ptr c1V_ptr isE3_ptr e3V_ptr
set_option maxRecDepth 10000 in
set_option maxHeartbeats 4000000 in
theorem refWith9 (l : List Ent) (a : Option Addr) (cap : Nat) (e : Ent) (w : World) (h : Ents w a cap l) (hl : l.length ≤ 900) (hA : Asc l) (hz : ∀ x ∈ l, x.1.size ≤ 100000) (he : e.1.size ≤ 100000) : Calls Tryd.prog 21 #[.slice a l.length cap, enV e] w fun r w' => ∃ a' cap', r = .returned (.slice a' (wth l e).length cap') ∧ Ents w' a' cap' (wth l e) ∧ Below w.heap.size w w' := by
  obtain ⟨W, hW⟩ : ∃ W, w.alloc (.cells #[.string e.1, .int .i64 e.2.1, .string e.2.2] 35) = W := ⟨_, rfl⟩
  obtain ⟨N, hN⟩ : ∃ N, w.heap.size = N := ⟨_, rfl⟩
  have hb0 : Below N w W := by rw [← hW, ← hN]; exact (Below.refl _ _).alloc (Nat.le_refl _) _
  have HB0 := Lib.hid hb0
  have HR0 := Lib.hid (show EnAt W N e.1 e.2.1 e.2.2 by rw [← hW, ← hN]; exact enAt_new _ _ _ _)
  have HE := Lib.hid (show Ents W a cap l from h.below (by rw [hN]; exact hb0))
  have HL := Lib.hid hl
  have HA := Lib.hid hA
  have HZ := Lib.hid hz
  have HZe := Lib.hid he
  clear h hl hA hz he hb0
  go_enter Tryd.func21, Tryd.ntmps21
  go_wp2
  go_loopg [5, 6, 7] l.length (fun g v z i wx => ∃ (k : Nat) (o : List Ent) (zb : Bool), z = .bool zb ∧ i = .int .i64 (k : Int) ∧ k + g = l.length ∧ Hid (OwnE wx W.heap.size v o) ∧ Hid (WInv l e k o zb) ∧ Hid (Below W.heap.size W wx))
  case atStart => exact ⟨0, [], false, rfl, rfl, by omega, ownE_nil _ _, .inl ⟨rfl, rfl, by simp⟩, Below.refl _ _⟩
  case round =>
    obtain ⟨k, o, zb, rfl, rfl, hk, HO, HI, HB⟩ := hrel
    have HOL := Lib.hid HI.out.len
    have hw : IntKind.i64.wrap ((k : Int) + 1) = (k : Int) + 1 := IntWalk.i64_in _ (by have := HL.out; omega)
    have hre := HR0.out.below HB.out
    have e0 := hre.c0
    have e1 := hre.c1
    have e2 := hre.c2
    clear hre
    by_cases hlt : k < l.length
    · have hlt' : (k : Int) < (l.length : Int) := by omega
      obtain ⟨b, off, rfl, hb, hc⟩ := HE.out.at HB.out hlt
      have HT := Lib.hid (show l.take (k + 1) = l.take k ++ [l[k]] from take_get l k hlt)
      have HX := Lib.hid (HZ.out _ (List.getElem_mem hlt))
      have HD := Lib.hid (asc_drop HA.out k hlt)
      have HDX := Lib.hid (show l[k] ∈ l.drop k by rw [List.drop_eq_getElem_cons hlt]; exact List.mem_cons_self)
      have HDS := Lib.hid (show ∀ y ∈ l.drop (k + 1), y ∈ l.drop k from fun y hy => by rw [List.drop_eq_getElem_cons hlt]; exact List.mem_cons_of_mem _ hy)
      obtain ⟨x, hx⟩ : ∃ x, l[k] = x := ⟨_, rfl⟩
      rw [hx] at hc HT HX HD HDX
      have HXK := Lib.hid hx
      have c0 := hc.c0
      have c1 := hc.c1
      have c2 := hc.c2
      have H2 : Hid (∀ w0 w', OldC w0 w' → Calls Tryd.prog 16 #[.string x.1, .string e.1] w' fun r w'' => r = .returned (.bool (lt8 (pl x) (pl e))) ∧ OldC w0 w'') := fun w0 w' hw' => by
        refine (refLess_any x.1 e.1 HX.out HZe.out w').mono ?_
        rintro r w'' ⟨rfl, hb⟩
        exact ⟨rfl, hw'.then hb⟩
      clear hc hx hb
      rcases HI.out with ⟨rfl, ho, hlo⟩ | ⟨rfl, ho, hgt⟩
      · cases hv : lt8 (pl x) (pl e) with
        | true =>
          rw [hv] at H2
          have HN : Hid (WInv l e (k + 1) (o ++ [x]) false) := .inl ⟨rfl, by rw [HT.out, ho], fun y hy => by
            rw [HT.out] at hy
            rcases List.mem_append.1 hy with hy | hy
            · exact hlo y hy
            · obtain rfl : y = x := by simpa using hy
              exact hv⟩
          have gp : (x.1.toList == e.1.toList) = false := by
            rw [beq_eq_false_iff_ne, Lib.toList_data, Lib.toList_data]
            exact lt8_ne hv
          clear hlo ho hv HI
          go_wp2_with fail
          refine wp_region_old (by kernel_rfl) (by kernel_rfl) ?_
          repeat (go_big_quiet_step ((first | (intro hw; with_reducible exact H2.out _ _ hw))))
          refine wpQuiet_nil ?_
          intro w3 hw3
          have HB3 := Lib.hid (show Below W.heap.size W w3 from HB.out.trans (Below.mono hw3 HB.out.size))
          have HO3 := Lib.hid (show OwnE w3 W.heap.size u5 o from HO.out.below hw3)
          clear hw3 c0 c1 c2 e0 e1 e2
          have hcx := HE.out.at HB3.out hlt
          rw [HXK.out] at hcx
          obtain ⟨b', off', e9, _, hcx⟩ := hcx
          cases e9
          have c0 := hcx.c0
          have c1 := hcx.c1
          have c2 := hcx.c2
          have hre := HR0.out.below HB3.out
          have e0 := hre.c0
          have e1 := hre.c1
          have e2 := hre.c2
          clear hcx hre
          go_wp2
          refine wp_region_old (by kernel_rfl) (by kernel_rfl) ?_
          repeat (go_big_quiet_step (fail))
          refine wpQuiet_nil ?_
          intro w5 hw5
          have HB5 := Lib.hid (show Below W.heap.size W w5 from HB3.out.trans (Below.mono hw5 HB3.out.size))
          have HO5 := Lib.hid (show OwnE w5 W.heap.size u5 o from HO3.out.below hw5)
          clear hw5 c0 c1 c2 e0 e1 e2
          have hcx := HE.out.at HB5.out hlt
          rw [HXK.out] at hcx
          obtain ⟨b', off', e9, _, hcx⟩ := hcx
          cases e9
          have c0 := hcx.c0
          have c1 := hcx.c1
          have c2 := hcx.c2
          have hre := HR0.out.below HB5.out
          have e0 := hre.c0
          have e1 := hre.c1
          have e2 := hre.c2
          clear hcx hre
          go_wp2_with (at_builtin; refine Stopped.go ?_)
          unfold Stopped
          refine wl_putE (by rfl) _ _ (by rfl) W.heap.size u5 o x (by rfl) (HO5.out.below ((Below.refl _ _).alloc (Nat.le_refl _) _)) (by have := HB5.out.size; simp; omega) w5.heap.size (by rfl) (enAt_new w5 x.1 x.2.1 x.2.2) (by have := HOL.out; have := HL.out; simp; omega) ?_
          intro v6 w6 ho hg
          have HB6 := Lib.hid ((HB5.out.alloc HB5.out.size (.cells #[.string x.1, .int .i64 x.2.1, .string x.2.2] 35)).grown hg (by have := HB5.out.size; simp; omega) (fun k hk => (ownE_blk HO5.out k hk).1))
          have HO6 := Lib.hid ho
          clear ho hg
          go_wp2
          go_roundg (gk - 1)
          case measure => omega
          case rel => exact ⟨k + 1, o ++ [x], false, rfl, by simp, by omega, HO6.out, HN.out, HB6.out⟩
        | false =>
          rw [hv] at H2
          by_cases hpe : pl x = pl e
          · have HN : Hid (WInv l e (k + 1) (o ++ [e]) true) := .inr ⟨rfl, by rw [HT.out, wth_same _ _ _ hlo hpe, ho], fun y hy => by rw [← hpe]; exact HD.out y hy⟩
            have gp : (x.1.toList == e.1.toList) = true := by
              rw [beq_iff_eq, Lib.toList_data, Lib.toList_data]
              exact hpe
            clear hlo ho hv HI hpe
            go_wp2_with fail
            refine wp_region_old (by kernel_rfl) (by kernel_rfl) ?_
            repeat (go_big_quiet_step ((first | (intro hw; with_reducible exact H2.out _ _ hw))))
            refine wpQuiet_nil ?_
            intro w3 hw3
            have HB3 := Lib.hid (show Below W.heap.size W w3 from HB.out.trans (Below.mono hw3 HB.out.size))
            have HO3 := Lib.hid (show OwnE w3 W.heap.size u5 o from HO.out.below hw3)
            clear hw3 c0 c1 c2 e0 e1 e2
            have hcx := HE.out.at HB3.out hlt
            rw [HXK.out] at hcx
            obtain ⟨b', off', e9, _, hcx⟩ := hcx
            cases e9
            have c0 := hcx.c0
            have c1 := hcx.c1
            have c2 := hcx.c2
            have hre := HR0.out.below HB3.out
            have e0 := hre.c0
            have e1 := hre.c1
            have e2 := hre.c2
            clear hcx hre
            go_wp2_with (at_builtin; refine Stopped.go ?_)
            unfold Stopped
            refine wl_putE (by rfl) _ _ (by rfl) W.heap.size u5 o e (by rfl) (HO3.out.below ((Below.refl _ _).alloc (Nat.le_refl _) _)) (by have := HB3.out.size; simp; omega) w3.heap.size (by rfl) (enAt_new w3 e.1 e.2.1 e.2.2) (by have := HOL.out; have := HL.out; simp; omega) ?_
            intro v4 w4 ho hg
            have HB4 := Lib.hid ((HB3.out.alloc HB3.out.size (.cells #[.string e.1, .int .i64 e.2.1, .string e.2.2] 35)).grown hg (by have := HB3.out.size; simp; omega) (fun k hk => (ownE_blk HO3.out k hk).1))
            have HO4 := Lib.hid ho
            clear ho hg
            clear c0 c1 c2 e0 e1 e2
            have hcx := HE.out.at HB4.out hlt
            rw [HXK.out] at hcx
            obtain ⟨b', off', e9, _, hcx⟩ := hcx
            cases e9
            have c0 := hcx.c0
            have c1 := hcx.c1
            have c2 := hcx.c2
            have hre := HR0.out.below HB4.out
            have e0 := hre.c0
            have e1 := hre.c1
            have e2 := hre.c2
            clear hcx hre
            go_wp2
            refine wp_region_old (by kernel_rfl) (by kernel_rfl) ?_
            repeat (go_big_quiet_step (fail))
            refine wpQuiet_nil ?_
            intro w5 hw5
            have HB5 := Lib.hid (show Below W.heap.size W w5 from HB4.out.trans (Below.mono hw5 HB4.out.size))
            have HO5 := Lib.hid (show OwnE w5 W.heap.size v4 (o ++ [e]) from HO4.out.below hw5)
            clear hw5 c0 c1 c2 e0 e1 e2
            go_wp2
            go_roundg (gk - 1)
            case measure => omega
            case rel => exact ⟨k + 1, o ++ [e], true, rfl, by simp, by omega, HO5.out, HN.out, HB5.out⟩
          · have hgx : lt8 (pl e) (pl x) = true := by
              rcases lt8_tri (pl x) (pl e) with h | h | h
              · exact absurd h hpe
              · rw [hv] at h; cases h
              · exact h
            have HN : Hid (WInv l e (k + 1) (o ++ [e] ++ [x]) true) := .inr ⟨rfl, by rw [HT.out, wth_append _ _ _ (fun y hy => by
              obtain rfl : y = x := by simpa using hy
              exact hgx), wth_snoc hlo, ho], fun y hy => lt8_trans hgx (HD.out y hy)⟩
            have gp : (x.1.toList == e.1.toList) = false := by
              rw [beq_eq_false_iff_ne, Lib.toList_data, Lib.toList_data]
              exact hpe
            clear hlo ho hv HI hpe hgx
            go_wp2_with fail
            refine wp_region_old (by kernel_rfl) (by kernel_rfl) ?_
            repeat (go_big_quiet_step ((first | (intro hw; with_reducible exact H2.out _ _ hw))))
            refine wpQuiet_nil ?_
            intro w3 hw3
            have HB3 := Lib.hid (show Below W.heap.size W w3 from HB.out.trans (Below.mono hw3 HB.out.size))
            have HO3 := Lib.hid (show OwnE w3 W.heap.size u5 o from HO.out.below hw3)
            clear hw3 c0 c1 c2 e0 e1 e2
            have hcx := HE.out.at HB3.out hlt
            rw [HXK.out] at hcx
            obtain ⟨b', off', e9, _, hcx⟩ := hcx
            cases e9
            have c0 := hcx.c0
            have c1 := hcx.c1
            have c2 := hcx.c2
            have hre := HR0.out.below HB3.out
            have e0 := hre.c0
            have e1 := hre.c1
            have e2 := hre.c2
            clear hcx hre
            go_wp2_with (at_builtin; refine Stopped.go ?_)
            unfold Stopped
            refine wl_putE (by rfl) _ _ (by rfl) W.heap.size u5 o e (by rfl) (HO3.out.below ((Below.refl _ _).alloc (Nat.le_refl _) _)) (by have := HB3.out.size; simp; omega) w3.heap.size (by rfl) (enAt_new w3 e.1 e.2.1 e.2.2) (by have := HOL.out; have := HL.out; simp; omega) ?_
            intro v4 w4 ho hg
            have HB4 := Lib.hid ((HB3.out.alloc HB3.out.size (.cells #[.string e.1, .int .i64 e.2.1, .string e.2.2] 35)).grown hg (by have := HB3.out.size; simp; omega) (fun k hk => (ownE_blk HO3.out k hk).1))
            have HO4 := Lib.hid ho
            clear ho hg
            clear c0 c1 c2 e0 e1 e2
            have hcx := HE.out.at HB4.out hlt
            rw [HXK.out] at hcx
            obtain ⟨b', off', e9, _, hcx⟩ := hcx
            cases e9
            have c0 := hcx.c0
            have c1 := hcx.c1
            have c2 := hcx.c2
            have hre := HR0.out.below HB4.out
            have e0 := hre.c0
            have e1 := hre.c1
            have e2 := hre.c2
            clear hcx hre
            go_wp2
            refine wp_region_old (by kernel_rfl) (by kernel_rfl) ?_
            repeat (go_big_quiet_step (fail))
            refine wpQuiet_nil ?_
            intro w5 hw5
            have HB5 := Lib.hid (show Below W.heap.size W w5 from HB4.out.trans (Below.mono hw5 HB4.out.size))
            have HO5 := Lib.hid (show OwnE w5 W.heap.size v4 (o ++ [e]) from HO4.out.below hw5)
            clear hw5 c0 c1 c2 e0 e1 e2
            have hcx := HE.out.at HB5.out hlt
            rw [HXK.out] at hcx
            obtain ⟨b', off', e9, _, hcx⟩ := hcx
            cases e9
            have c0 := hcx.c0
            have c1 := hcx.c1
            have c2 := hcx.c2
            have hre := HR0.out.below HB5.out
            have e0 := hre.c0
            have e1 := hre.c1
            have e2 := hre.c2
            clear hcx hre
            go_wp2_with (at_builtin; refine Stopped.go ?_)
            unfold Stopped
            refine wl_putE (by rfl) _ _ (by rfl) W.heap.size v4 (o ++ [e]) x (by rfl) (HO5.out.below ((Below.refl _ _).alloc (Nat.le_refl _) _)) (by have := HB5.out.size; simp; omega) w5.heap.size (by rfl) (enAt_new w5 x.1 x.2.1 x.2.2) (by have := HOL.out; have := HL.out; simp; omega) ?_
            intro v6 w6 ho hg
            have HB6 := Lib.hid ((HB5.out.alloc HB5.out.size (.cells #[.string x.1, .int .i64 x.2.1, .string x.2.2] 35)).grown hg (by have := HB5.out.size; simp; omega) (fun k hk => (ownE_blk HO5.out k hk).1))
            have HO6 := Lib.hid ho
            clear ho hg
            go_wp2
            go_roundg (gk - 1)
            case measure => omega
            case rel => exact ⟨k + 1, o ++ [e] ++ [x], true, rfl, by simp, by omega, HO6.out, HN.out, HB6.out⟩
      · have HN : Hid (WInv l e (k + 1) (o ++ [x]) true) := .inr ⟨rfl, by
          rw [HT.out, wth_append _ _ _ (fun y hy => by
            obtain rfl : y = x := by simpa using hy
            exact hgt y HDX.out), ho], fun y hy => hgt y (HDS.out y hy)⟩
        have gp : (x.1.toList == e.1.toList) = false := by
          rw [beq_eq_false_iff_ne, Lib.toList_data, Lib.toList_data]
          exact (lt8_ne (hgt x HDX.out)).symm
        clear hgt ho HI
        go_wp2_with fail
        refine wp_region_old (by kernel_rfl) (by kernel_rfl) ?_
        repeat (go_big_quiet_step ((first | (intro hw; with_reducible exact H2.out _ _ hw))))
        refine wpQuiet_nil ?_
        intro w3 hw3
        have HB3 := Lib.hid (show Below W.heap.size W w3 from HB.out.trans (Below.mono hw3 HB.out.size))
        have HO3 := Lib.hid (show OwnE w3 W.heap.size u5 o from HO.out.below hw3)
        clear hw3 c0 c1 c2 e0 e1 e2
        have hcx := HE.out.at HB3.out hlt
        rw [HXK.out] at hcx
        obtain ⟨b', off', e9, _, hcx⟩ := hcx
        cases e9
        have c0 := hcx.c0
        have c1 := hcx.c1
        have c2 := hcx.c2
        have hre := HR0.out.below HB3.out
        have e0 := hre.c0
        have e1 := hre.c1
        have e2 := hre.c2
        clear hcx hre
        go_wp2
        refine wp_region_old (by kernel_rfl) (by kernel_rfl) ?_
        repeat (go_big_quiet_step (fail))
        refine wpQuiet_nil ?_
        intro w5 hw5
        have HB5 := Lib.hid (show Below W.heap.size W w5 from HB3.out.trans (Below.mono hw5 HB3.out.size))
        have HO5 := Lib.hid (show OwnE w5 W.heap.size u5 o from HO3.out.below hw5)
        clear hw5 c0 c1 c2 e0 e1 e2
        have hcx := HE.out.at HB5.out hlt
        rw [HXK.out] at hcx
        obtain ⟨b', off', e9, _, hcx⟩ := hcx
        cases e9
        have c0 := hcx.c0
        have c1 := hcx.c1
        have c2 := hcx.c2
        have hre := HR0.out.below HB5.out
        have e0 := hre.c0
        have e1 := hre.c1
        have e2 := hre.c2
        clear hcx hre
        go_wp2_with (at_builtin; refine Stopped.go ?_)
        unfold Stopped
        refine wl_putE (by rfl) _ _ (by rfl) W.heap.size u5 o x (by rfl) (HO5.out.below ((Below.refl _ _).alloc (Nat.le_refl _) _)) (by have := HB5.out.size; simp; omega) w5.heap.size (by rfl) (enAt_new w5 x.1 x.2.1 x.2.2) (by have := HOL.out; have := HL.out; simp; omega) ?_
        intro v6 w6 ho hg
        have HB6 := Lib.hid ((HB5.out.alloc HB5.out.size (.cells #[.string x.1, .int .i64 x.2.1, .string x.2.2] 35)).grown hg (by have := HB5.out.size; simp; omega) (fun k hk => (ownE_blk HO5.out k hk).1))
        have HO6 := Lib.hid ho
        clear ho hg
        go_wp2
        go_roundg (gk - 1)
        case measure => omega
        case rel => exact ⟨k + 1, o ++ [x], true, rfl, by simp, by omega, HO6.out, HN.out, HB6.out⟩
    · have hlt' : ¬ (k : Int) < (l.length : Int) := by omega
      have hdone : Hid (zb = false ∧ o ++ [e] = wth l e) ∨ Hid (zb = true ∧ o = wth l e) := by
        have := HI.out
        unfold WInv at this
        rw [List.take_of_length_le (by omega)] at this
        rcases this with ⟨h1, h2, h3⟩ | ⟨h1, h2, _⟩
        · exact .inl ⟨h1, by rw [wth_snoc h3, h2]⟩
        · exact .inr ⟨h1, h2⟩
      clear HI
      rcases hdone with ⟨rfl, ho⟩ | ⟨rfl, ho⟩
      · have HV := Lib.hid ho
        clear ho
        go_wp2_with (at_builtin; refine Stopped.go ?_)
        unfold Stopped
        refine wl_putE (by rfl) _ _ (by rfl) W.heap.size u5 o e (by rfl) (HO.out.below ((Below.refl _ _).alloc (Nat.le_refl _) _)) (by have := HB.out.size; simp; omega) wr.heap.size (by rfl) (enAt_new wr e.1 e.2.1 e.2.2) (by have := HOL.out; have := HL.out; simp; omega) ?_
        intro v4 w4 ho hg
        have HB4 := Lib.hid ((HB.out.alloc HB.out.size (.cells #[.string e.1, .int .i64 e.2.1, .string e.2.2] 35)).grown hg (by have := HB.out.size; simp; omega) (fun k hk => (ownE_blk HO.out k hk).1))
        have HO4 := Lib.hid ho
        clear ho hg
        have HO5 := Lib.hid (show OwnE w4 W.heap.size v4 (wth l e) by rw [← HV.out]; exact HO4.out)
        go_wp2
        go_ret
        obtain ⟨a', cap', rfl, h2⟩ := ents_of_own HO5.out
        exact ⟨a', cap', rfl, h2, by rw [hN]; exact HB0.out.trans (HB4.out.mono (by have := HR0.out.lt; omega))⟩
      · have HO5 := Lib.hid (show OwnE wr W.heap.size u5 (wth l e) by rw [← ho]; exact HO.out)
        clear ho
        go_wp2
        go_ret
        obtain ⟨a', cap', rfl, h2⟩ := ents_of_own HO5.out
        exact ⟨a', cap', rfl, h2, by first | exact HB0.out.trans (HB.out.mono (by have := HR0.out.lt; omega)) | (rw [hN]; exact HB0.out.trans (HB.out.mono (by have := HR0.out.lt; omega)))⟩
end Go.Proofs.YtkclclhmeenncaaDoor
