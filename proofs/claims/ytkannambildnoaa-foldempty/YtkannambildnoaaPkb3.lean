/-
  Contracts of the document's own With and Without (package shaleref09): a rising list with an entry, and without one. Conditions: the list lies in memory, has at most 900 entries; With: its paths rise, and have at most 100000 bytes.
  The contract of the document's own Over (package shaleref10): a right layer laid over a tree. Condition: both lie in memory; the tree has at most 800 entries.
  A slice of slices of entries ([][]api.Entry) in memory, told by a list of lists. No condition.
  A stack of layers in memory ([][]api.Entry), told by a list of lists; the document's own Stack; 'Few' of layer 10's statements. Condition: it lies in memory; Stack: its layers are right, and at most twelve.
  Lists of entries of a size that the contracts take. No condition.
  What package fold's functions, and package layer's Right, answer, as one statement about all of them (Fold10): the laws of layer 10 are walked over it. Conditions: lists in memory, of at most 1000 entries, texts of at most 100000 bytes.
  What a layer laid over a tree comes to, told by what stays of the tree, what the layer shows, and the order of paths. No condition.
  Whether an entry of a tree goes when a right layer is laid over it, told by what a map of the layer has at the entry's path and at those above it. No condition.
  A map in memory whose keys are of type string, whatever its elements are, told by a function from keys to what stands there: made, looked into, stored into. Condition: keys of at most maxLen bytes.
  The contract of package fold's gone: a closure that holds a map of a layer's kinds. Conditions: the layer lies in memory, has at most 1000 entries, paths of at most 100000 bytes.
  The contract of the closure that package fold's gone answers: whether an entry of a tree goes. Conditions: the closure holds the map of a right layer; the entry is right.
-/
import Derived.Test.YtkannambildnoaaPkb2
import Derived.Test.YtkannambildnoaaPka1
import Derived.Test.YtkannambildnoaaEnv
import Derived.WalkKit
import Derived.Maps.OwnOps
import Derived.Maps.Views
import Derived.StringKeys
import Derived.Deep.LoopGhost
import Derived.Lib.Hide
import Derived.IntWalk
import Derived.Test.YtkannambildnoaaS3ParG
namespace Go.Proofs.Ytkannambildnoaa
open Go.RowKit

theorem filter_take {l : List Ent} (f : Ent → Bool) (k : Nat) (h : k < l.length) : (l.take (k + 1)).filter f = (l.take k).filter f ++ (if f l[k] then [l[k]] else []) := by
  rw [take_get l k h, List.filter_append, List.filter_cons]
  simp
theorem OwnE.grow {w w' : World} {B : Nat} (W : World) (hB : Below B W w) (hs : B ≤ w.heap.size) {v : Value} {l : List Ent} (h : OwnE w B v l) (hg : w.grownBy w' v.ownBlock) : Below B W w' := hB.grown hg hs fun k hk => (ownE_blk h k hk).1
theorem wth_append (a b : List Ent) (e : Ent) (hb : ∀ x ∈ b, lt8 (pl e) (pl x) = true) : wth (a ++ b) e = wth a e ++ b := by
  have h1 : b.filter (fun a => lt8 (pl a) (pl e)) = [] := List.filter_eq_nil_iff.2 fun x hx => by rw [lt8_asymm (hb x hx)]; simp
  have h2 : b.filter (fun a => lt8 (pl e) (pl a)) = b := List.filter_eq_self.2 hb
  unfold wth
  rw [List.filter_append, List.filter_append, h1, h2, List.append_nil, List.append_assoc]
  rfl
theorem wth_same (a : List Ent) (x e : Ent) (ha : ∀ y ∈ a, lt8 (pl y) (pl e) = true) (hx : pl x = pl e) : wth (a ++ [x]) e = a ++ [e] := by
  have h1 : a.filter (fun a => lt8 (pl a) (pl e)) = a := List.filter_eq_self.2 ha
  have h2 : a.filter (fun a => lt8 (pl e) (pl a)) = [] := List.filter_eq_nil_iff.2 fun y hy => by rw [lt8_asymm (ha y hy)]; simp
  unfold wth
  rw [List.filter_append, List.filter_append, h1, h2]
  simp [hx, lt8_irr]
theorem asc_drop {l : List Ent} (h : Asc l) (k : Nat) (hk : k < l.length) : ∀ y ∈ l.drop (k + 1), lt8 (pl l[k]) (pl y) = true := by
  have h2 : Asc (l.drop k) := List.Pairwise.sublist (List.drop_sublist _ _) h
  unfold Asc at h2
  rw [List.drop_eq_getElem_cons hk] at h2
  exact (List.pairwise_cons.1 h2).1
theorem filt_len {α : Type} (f g : α → Bool) (h : ∀ x, f x = true → g x = false) : ∀ l : List α, (l.filter f).length + (l.filter g).length ≤ l.length
  | [] => by simp
  | x :: r => by
    have ih := filt_len f g h r
    rw [List.filter_cons, List.filter_cons]
    cases hf : f x with
    | true =>
      rw [h x hf]
      simp
      omega
    | false =>
      cases g x <;> simp <;> omega
theorem wth_len (l : List Ent) (e : Ent) : (wth l e).length ≤ l.length + 1 := by
  have := filt_len (fun a => lt8 (pl a) (pl e)) (fun a => lt8 (pl e) (pl a)) (fun x hx => lt8_asymm hx) l
  unfold wth
  rw [List.length_append, List.length_cons]
  omega
/-- What With has made of the first k entries. -/
def WInv (l : List Ent) (e : Ent) (k : Nat) (o : List Ent) (zb : Bool) : Prop := (zb = false ∧ o = l.take k ∧ ∀ x ∈ l.take k, lt8 (pl x) (pl e) = true) ∨ (zb = true ∧ o = wth (l.take k) e ∧ ∀ x ∈ l.drop k, lt8 (pl e) (pl x) = true)
theorem WInv.len {l : List Ent} {e : Ent} {k : Nat} {o : List Ent} {zb : Bool} (h : WInv l e k o zb) : o.length ≤ k + 1 := by
  rcases h with ⟨_, rfl, _⟩ | ⟨_, rfl, _⟩
  · rw [List.length_take]; omega
  · have := wth_len (l.take k) e
    rw [List.length_take] at this
    omega
attribute [local go_sem ↓] old_ldi old_lds old_lde3
attribute [local go_sem] oldC_forall isC1_ptr isS1_ptr c1V_ptr isE3_ptr e3V_ptr
set_option maxRecDepth 10000 in
set_option maxHeartbeats 4000000 in
theorem refWith9 (l : List Ent) (a : Option Addr) (cap : Nat) (e : Ent) (w : World) (h : Ents w a cap l) (hl : l.length ≤ 900) (hA : Asc l) (hz : ∀ x ∈ l, x.1.size ≤ 100000) (he : e.1.size ≤ 100000) : Calls Try.prog 32 #[.slice a l.length cap, enV e] w fun r w' => ∃ a' cap', r = .returned (.slice a' (wth l e).length cap') ∧ Ents w' a' cap' (wth l e) ∧ Below w.heap.size w w' := by
  obtain ⟨W, hW⟩ : ∃ W, w.alloc (.cells #[.string e.1, .int .i64 e.2.1, .string e.2.2] 34) = W := ⟨_, rfl⟩
  obtain ⟨N, hN⟩ : ∃ N, w.heap.size = N := ⟨_, rfl⟩
  have hb0 : Below N w W := by rw [← hW, ← hN]; exact (Below.refl _ _).alloc (Nat.le_refl _) _
  have HB0 := Lib.hid hb0
  have HR0 := Lib.hid (show EnAt W N e.1 e.2.1 e.2.2 by rw [← hW, ← hN]; exact enAt_new _ _ _ _)
  have HE := Lib.hid (show Ents W a cap l from h.below (by rw [hN]; exact hb0))
  have HL := Lib.hid hl
  have HA := Lib.hid hA
  have HZ := Lib.hid hz
  have HZe := Lib.hid he
  clear h hl hA hz he hb0
  go_enter Try.func32, Try.ntmps32
  go_wp2
  go_loopg [5, 6, 7] l.length (fun g v z i wx => ∃ (k : Nat) (o : List Ent) (zb : Bool), z = .bool zb ∧ i = .int .i64 (k : Int) ∧ k + g = l.length ∧ Hid (OwnE wx W.heap.size v o) ∧ Hid (WInv l e k o zb) ∧ Hid (Below W.heap.size W wx))
  case atStart => exact ⟨0, [], false, rfl, rfl, by omega, ownE_nil _ _, .inl ⟨rfl, rfl, by simp⟩, Below.refl _ _⟩
  case round =>
    obtain ⟨k, o, zb, rfl, rfl, hk, HO, HI, HB⟩ := hrel
    have HOL := Lib.hid HI.out.len
    have hw : IntKind.i64.wrap ((k : Int) + 1) = (k : Int) + 1 := IntWalk.i64_in _ (by have := HL.out; omega)
    have hre := HR0.out.below HB.out
    have e0 := hre.c0
    have e1 := hre.c1
    have e2 := hre.c2
    clear hre
    by_cases hlt : k < l.length
    · have hlt' : (k : Int) < (l.length : Int) := by omega
      obtain ⟨b, off, rfl, hb, hc⟩ := HE.out.at HB.out hlt
      have HT := Lib.hid (show l.take (k + 1) = l.take k ++ [l[k]] from take_get l k hlt)
      have HX := Lib.hid (HZ.out _ (List.getElem_mem hlt))
      have HD := Lib.hid (asc_drop HA.out k hlt)
      have HDX := Lib.hid (show l[k] ∈ l.drop k by rw [List.drop_eq_getElem_cons hlt]; exact List.mem_cons_self)
      have HDS := Lib.hid (show ∀ y ∈ l.drop (k + 1), y ∈ l.drop k from fun y hy => by rw [List.drop_eq_getElem_cons hlt]; exact List.mem_cons_of_mem _ hy)
      obtain ⟨x, hx⟩ : ∃ x, l[k] = x := ⟨_, rfl⟩
      rw [hx] at hc HT HX HD HDX
      have HXK := Lib.hid hx
      have c0 := hc.c0
      have c1 := hc.c1
      have c2 := hc.c2
      have H2 : Hid (∀ w0 w', OldC w0 w' → Calls Try.prog 30 #[.string x.1, .string e.1] w' fun r w'' => r = .returned (.bool (lt8 (pl x) (pl e))) ∧ OldC w0 w'') := fun w0 w' hw' => by
        refine (refLess_any x.1 e.1 HX.out HZe.out w').mono ?_
        rintro r w'' ⟨rfl, hb⟩
        exact ⟨rfl, hw'.then hb⟩
      clear hc hx hb
      rcases HI.out with ⟨rfl, ho, hlo⟩ | ⟨rfl, ho, hgt⟩
      · cases hv : lt8 (pl x) (pl e) with
        | true =>
          rw [hv] at H2
          have HN : Hid (WInv l e (k + 1) (o ++ [x]) false) := .inl ⟨rfl, by rw [HT.out, ho], fun y hy => by
            rw [HT.out] at hy
            rcases List.mem_append.1 hy with hy | hy
            · exact hlo y hy
            · obtain rfl : y = x := by simpa using hy
              exact hv⟩
          have gp : (x.1.toList == e.1.toList) = false := by
            rw [beq_eq_false_iff_ne, Lib.toList_data, Lib.toList_data]
            exact lt8_ne hv
          clear hlo ho hv HI
          go_wp2_with fail
          refine wp_region_old (by kernel_rfl) (by kernel_rfl) ?_
          repeat (go_big_quiet_step ((first | (intro hw; with_reducible exact H2.out _ _ hw))))
          refine wpQuiet_nil ?_
          intro w3 hw3
          have HB3 := Lib.hid (show Below W.heap.size W w3 from HB.out.trans (Below.mono hw3 HB.out.size))
          have HO3 := Lib.hid (show OwnE w3 W.heap.size u5 o from HO.out.below hw3)
          clear hw3 c0 c1 c2 e0 e1 e2
          have hcx := HE.out.at HB3.out hlt
          rw [HXK.out] at hcx
          obtain ⟨b', off', e9, _, hcx⟩ := hcx
          cases e9
          have c0 := hcx.c0
          have c1 := hcx.c1
          have c2 := hcx.c2
          have hre := HR0.out.below HB3.out
          have e0 := hre.c0
          have e1 := hre.c1
          have e2 := hre.c2
          clear hcx hre
          go_wp2
          refine wp_region_old (by kernel_rfl) (by kernel_rfl) ?_
          repeat (go_big_quiet_step (fail))
          refine wpQuiet_nil ?_
          intro w5 hw5
          have HB5 := Lib.hid (show Below W.heap.size W w5 from HB3.out.trans (Below.mono hw5 HB3.out.size))
          have HO5 := Lib.hid (show OwnE w5 W.heap.size u5 o from HO3.out.below hw5)
          clear hw5 c0 c1 c2 e0 e1 e2
          have hcx := HE.out.at HB5.out hlt
          rw [HXK.out] at hcx
          obtain ⟨b', off', e9, _, hcx⟩ := hcx
          cases e9
          have c0 := hcx.c0
          have c1 := hcx.c1
          have c2 := hcx.c2
          have hre := HR0.out.below HB5.out
          have e0 := hre.c0
          have e1 := hre.c1
          have e2 := hre.c2
          clear hcx hre
          go_wp2_with (at_builtin; refine Stopped.go ?_)
          unfold Stopped
          refine wl_putE (by rfl) _ _ (by rfl) W.heap.size u5 o x (by rfl) (HO5.out.below ((Below.refl _ _).alloc (Nat.le_refl _) _)) (by have := HB5.out.size; simp; omega) w5.heap.size (by rfl) (enAt_new w5 x.1 x.2.1 x.2.2) (by have := HOL.out; have := HL.out; simp; omega) ?_
          intro v6 w6 ho hg
          have HB6 := Lib.hid ((HB5.out.alloc HB5.out.size (.cells #[.string x.1, .int .i64 x.2.1, .string x.2.2] 34)).grown hg (by have := HB5.out.size; simp; omega) (fun k hk => (ownE_blk HO5.out k hk).1))
          have HO6 := Lib.hid ho
          clear ho hg
          go_wp2
          go_roundg (gk - 1)
          case measure => omega
          case rel => exact ⟨k + 1, o ++ [x], false, rfl, by simp, by omega, HO6.out, HN.out, HB6.out⟩
        | false =>
          rw [hv] at H2
          by_cases hpe : pl x = pl e
          · have HN : Hid (WInv l e (k + 1) (o ++ [e]) true) := .inr ⟨rfl, by rw [HT.out, wth_same _ _ _ hlo hpe, ho], fun y hy => by rw [← hpe]; exact HD.out y hy⟩
            have gp : (x.1.toList == e.1.toList) = true := by
              rw [beq_iff_eq, Lib.toList_data, Lib.toList_data]
              exact hpe
            clear hlo ho hv HI hpe
            go_wp2_with fail
            refine wp_region_old (by kernel_rfl) (by kernel_rfl) ?_
            repeat (go_big_quiet_step ((first | (intro hw; with_reducible exact H2.out _ _ hw))))
            refine wpQuiet_nil ?_
            intro w3 hw3
            have HB3 := Lib.hid (show Below W.heap.size W w3 from HB.out.trans (Below.mono hw3 HB.out.size))
            have HO3 := Lib.hid (show OwnE w3 W.heap.size u5 o from HO.out.below hw3)
            clear hw3 c0 c1 c2 e0 e1 e2
            have hcx := HE.out.at HB3.out hlt
            rw [HXK.out] at hcx
            obtain ⟨b', off', e9, _, hcx⟩ := hcx
            cases e9
            have c0 := hcx.c0
            have c1 := hcx.c1
            have c2 := hcx.c2
            have hre := HR0.out.below HB3.out
            have e0 := hre.c0
            have e1 := hre.c1
            have e2 := hre.c2
            clear hcx hre
            go_wp2_with (at_builtin; refine Stopped.go ?_)
            unfold Stopped
            refine wl_putE (by rfl) _ _ (by rfl) W.heap.size u5 o e (by rfl) (HO3.out.below ((Below.refl _ _).alloc (Nat.le_refl _) _)) (by have := HB3.out.size; simp; omega) w3.heap.size (by rfl) (enAt_new w3 e.1 e.2.1 e.2.2) (by have := HOL.out; have := HL.out; simp; omega) ?_
            intro v4 w4 ho hg
            have HB4 := Lib.hid ((HB3.out.alloc HB3.out.size (.cells #[.string e.1, .int .i64 e.2.1, .string e.2.2] 34)).grown hg (by have := HB3.out.size; simp; omega) (fun k hk => (ownE_blk HO3.out k hk).1))
            have HO4 := Lib.hid ho
            clear ho hg
            clear c0 c1 c2 e0 e1 e2
            have hcx := HE.out.at HB4.out hlt
            rw [HXK.out] at hcx
            obtain ⟨b', off', e9, _, hcx⟩ := hcx
            cases e9
            have c0 := hcx.c0
            have c1 := hcx.c1
            have c2 := hcx.c2
            have hre := HR0.out.below HB4.out
            have e0 := hre.c0
            have e1 := hre.c1
            have e2 := hre.c2
            clear hcx hre
            go_wp2
            refine wp_region_old (by kernel_rfl) (by kernel_rfl) ?_
            repeat (go_big_quiet_step (fail))
            refine wpQuiet_nil ?_
            intro w5 hw5
            have HB5 := Lib.hid (show Below W.heap.size W w5 from HB4.out.trans (Below.mono hw5 HB4.out.size))
            have HO5 := Lib.hid (show OwnE w5 W.heap.size v4 (o ++ [e]) from HO4.out.below hw5)
            clear hw5 c0 c1 c2 e0 e1 e2
            go_wp2
            go_roundg (gk - 1)
            case measure => omega
            case rel => exact ⟨k + 1, o ++ [e], true, rfl, by simp, by omega, HO5.out, HN.out, HB5.out⟩
          · have hgx : lt8 (pl e) (pl x) = true := by
              rcases lt8_tri (pl x) (pl e) with h | h | h
              · exact absurd h hpe
              · rw [hv] at h; cases h
              · exact h
            have HN : Hid (WInv l e (k + 1) (o ++ [e] ++ [x]) true) := .inr ⟨rfl, by rw [HT.out, wth_append _ _ _ (fun y hy => by
              obtain rfl : y = x := by simpa using hy
              exact hgx), wth_snoc hlo, ho], fun y hy => lt8_trans hgx (HD.out y hy)⟩
            have gp : (x.1.toList == e.1.toList) = false := by
              rw [beq_eq_false_iff_ne, Lib.toList_data, Lib.toList_data]
              exact hpe
            clear hlo ho hv HI hpe hgx
            go_wp2_with fail
            refine wp_region_old (by kernel_rfl) (by kernel_rfl) ?_
            repeat (go_big_quiet_step ((first | (intro hw; with_reducible exact H2.out _ _ hw))))
            refine wpQuiet_nil ?_
            intro w3 hw3
            have HB3 := Lib.hid (show Below W.heap.size W w3 from HB.out.trans (Below.mono hw3 HB.out.size))
            have HO3 := Lib.hid (show OwnE w3 W.heap.size u5 o from HO.out.below hw3)
            clear hw3 c0 c1 c2 e0 e1 e2
            have hcx := HE.out.at HB3.out hlt
            rw [HXK.out] at hcx
            obtain ⟨b', off', e9, _, hcx⟩ := hcx
            cases e9
            have c0 := hcx.c0
            have c1 := hcx.c1
            have c2 := hcx.c2
            have hre := HR0.out.below HB3.out
            have e0 := hre.c0
            have e1 := hre.c1
            have e2 := hre.c2
            clear hcx hre
            go_wp2_with (at_builtin; refine Stopped.go ?_)
            unfold Stopped
            refine wl_putE (by rfl) _ _ (by rfl) W.heap.size u5 o e (by rfl) (HO3.out.below ((Below.refl _ _).alloc (Nat.le_refl _) _)) (by have := HB3.out.size; simp; omega) w3.heap.size (by rfl) (enAt_new w3 e.1 e.2.1 e.2.2) (by have := HOL.out; have := HL.out; simp; omega) ?_
            intro v4 w4 ho hg
            have HB4 := Lib.hid ((HB3.out.alloc HB3.out.size (.cells #[.string e.1, .int .i64 e.2.1, .string e.2.2] 34)).grown hg (by have := HB3.out.size; simp; omega) (fun k hk => (ownE_blk HO3.out k hk).1))
            have HO4 := Lib.hid ho
            clear ho hg
            clear c0 c1 c2 e0 e1 e2
            have hcx := HE.out.at HB4.out hlt
            rw [HXK.out] at hcx
            obtain ⟨b', off', e9, _, hcx⟩ := hcx
            cases e9
            have c0 := hcx.c0
            have c1 := hcx.c1
            have c2 := hcx.c2
            have hre := HR0.out.below HB4.out
            have e0 := hre.c0
            have e1 := hre.c1
            have e2 := hre.c2
            clear hcx hre
            go_wp2
            refine wp_region_old (by kernel_rfl) (by kernel_rfl) ?_
            repeat (go_big_quiet_step (fail))
            refine wpQuiet_nil ?_
            intro w5 hw5
            have HB5 := Lib.hid (show Below W.heap.size W w5 from HB4.out.trans (Below.mono hw5 HB4.out.size))
            have HO5 := Lib.hid (show OwnE w5 W.heap.size v4 (o ++ [e]) from HO4.out.below hw5)
            clear hw5 c0 c1 c2 e0 e1 e2
            have hcx := HE.out.at HB5.out hlt
            rw [HXK.out] at hcx
            obtain ⟨b', off', e9, _, hcx⟩ := hcx
            cases e9
            have c0 := hcx.c0
            have c1 := hcx.c1
            have c2 := hcx.c2
            have hre := HR0.out.below HB5.out
            have e0 := hre.c0
            have e1 := hre.c1
            have e2 := hre.c2
            clear hcx hre
            go_wp2_with (at_builtin; refine Stopped.go ?_)
            unfold Stopped
            refine wl_putE (by rfl) _ _ (by rfl) W.heap.size v4 (o ++ [e]) x (by rfl) (HO5.out.below ((Below.refl _ _).alloc (Nat.le_refl _) _)) (by have := HB5.out.size; simp; omega) w5.heap.size (by rfl) (enAt_new w5 x.1 x.2.1 x.2.2) (by have := HOL.out; have := HL.out; simp; omega) ?_
            intro v6 w6 ho hg
            have HB6 := Lib.hid ((HB5.out.alloc HB5.out.size (.cells #[.string x.1, .int .i64 x.2.1, .string x.2.2] 34)).grown hg (by have := HB5.out.size; simp; omega) (fun k hk => (ownE_blk HO5.out k hk).1))
            have HO6 := Lib.hid ho
            clear ho hg
            go_wp2
            go_roundg (gk - 1)
            case measure => omega
            case rel => exact ⟨k + 1, o ++ [e] ++ [x], true, rfl, by simp, by omega, HO6.out, HN.out, HB6.out⟩
      · have HN : Hid (WInv l e (k + 1) (o ++ [x]) true) := .inr ⟨rfl, by
          rw [HT.out, wth_append _ _ _ (fun y hy => by
            obtain rfl : y = x := by simpa using hy
            exact hgt y HDX.out), ho], fun y hy => hgt y (HDS.out y hy)⟩
        have gp : (x.1.toList == e.1.toList) = false := by
          rw [beq_eq_false_iff_ne, Lib.toList_data, Lib.toList_data]
          exact (lt8_ne (hgt x HDX.out)).symm
        clear hgt ho HI
        go_wp2_with fail
        refine wp_region_old (by kernel_rfl) (by kernel_rfl) ?_
        repeat (go_big_quiet_step ((first | (intro hw; with_reducible exact H2.out _ _ hw))))
        refine wpQuiet_nil ?_
        intro w3 hw3
        have HB3 := Lib.hid (show Below W.heap.size W w3 from HB.out.trans (Below.mono hw3 HB.out.size))
        have HO3 := Lib.hid (show OwnE w3 W.heap.size u5 o from HO.out.below hw3)
        clear hw3 c0 c1 c2 e0 e1 e2
        have hcx := HE.out.at HB3.out hlt
        rw [HXK.out] at hcx
        obtain ⟨b', off', e9, _, hcx⟩ := hcx
        cases e9
        have c0 := hcx.c0
        have c1 := hcx.c1
        have c2 := hcx.c2
        have hre := HR0.out.below HB3.out
        have e0 := hre.c0
        have e1 := hre.c1
        have e2 := hre.c2
        clear hcx hre
        go_wp2
        refine wp_region_old (by kernel_rfl) (by kernel_rfl) ?_
        repeat (go_big_quiet_step (fail))
        refine wpQuiet_nil ?_
        intro w5 hw5
        have HB5 := Lib.hid (show Below W.heap.size W w5 from HB3.out.trans (Below.mono hw5 HB3.out.size))
        have HO5 := Lib.hid (show OwnE w5 W.heap.size u5 o from HO3.out.below hw5)
        clear hw5 c0 c1 c2 e0 e1 e2
        have hcx := HE.out.at HB5.out hlt
        rw [HXK.out] at hcx
        obtain ⟨b', off', e9, _, hcx⟩ := hcx
        cases e9
        have c0 := hcx.c0
        have c1 := hcx.c1
        have c2 := hcx.c2
        have hre := HR0.out.below HB5.out
        have e0 := hre.c0
        have e1 := hre.c1
        have e2 := hre.c2
        clear hcx hre
        go_wp2_with (at_builtin; refine Stopped.go ?_)
        unfold Stopped
        refine wl_putE (by rfl) _ _ (by rfl) W.heap.size u5 o x (by rfl) (HO5.out.below ((Below.refl _ _).alloc (Nat.le_refl _) _)) (by have := HB5.out.size; simp; omega) w5.heap.size (by rfl) (enAt_new w5 x.1 x.2.1 x.2.2) (by have := HOL.out; have := HL.out; simp; omega) ?_
        intro v6 w6 ho hg
        have HB6 := Lib.hid ((HB5.out.alloc HB5.out.size (.cells #[.string x.1, .int .i64 x.2.1, .string x.2.2] 34)).grown hg (by have := HB5.out.size; simp; omega) (fun k hk => (ownE_blk HO5.out k hk).1))
        have HO6 := Lib.hid ho
        clear ho hg
        go_wp2
        go_roundg (gk - 1)
        case measure => omega
        case rel => exact ⟨k + 1, o ++ [x], true, rfl, by simp, by omega, HO6.out, HN.out, HB6.out⟩
    · have hlt' : ¬ (k : Int) < (l.length : Int) := by omega
      have hdone : Hid (zb = false ∧ o ++ [e] = wth l e) ∨ Hid (zb = true ∧ o = wth l e) := by
        have := HI.out
        unfold WInv at this
        rw [List.take_of_length_le (by omega)] at this
        rcases this with ⟨h1, h2, h3⟩ | ⟨h1, h2, _⟩
        · exact .inl ⟨h1, by rw [wth_snoc h3, h2]⟩
        · exact .inr ⟨h1, h2⟩
      clear HI
      rcases hdone with ⟨rfl, ho⟩ | ⟨rfl, ho⟩
      · have HV := Lib.hid ho
        clear ho
        go_wp2_with (at_builtin; refine Stopped.go ?_)
        unfold Stopped
        refine wl_putE (by rfl) _ _ (by rfl) W.heap.size u5 o e (by rfl) (HO.out.below ((Below.refl _ _).alloc (Nat.le_refl _) _)) (by have := HB.out.size; simp; omega) wr.heap.size (by rfl) (enAt_new wr e.1 e.2.1 e.2.2) (by have := HOL.out; have := HL.out; simp; omega) ?_
        intro v4 w4 ho hg
        have HB4 := Lib.hid ((HB.out.alloc HB.out.size (.cells #[.string e.1, .int .i64 e.2.1, .string e.2.2] 34)).grown hg (by have := HB.out.size; simp; omega) (fun k hk => (ownE_blk HO.out k hk).1))
        have HO4 := Lib.hid ho
        clear ho hg
        have HO5 := Lib.hid (show OwnE w4 W.heap.size v4 (wth l e) by rw [← HV.out]; exact HO4.out)
        go_wp2
        go_ret
        obtain ⟨a', cap', rfl, h2⟩ := ents_of_own HO5.out
        exact ⟨a', cap', rfl, h2, by rw [hN]; exact HB0.out.trans (HB4.out.mono (by have := HR0.out.lt; omega))⟩
      · have HO5 := Lib.hid (show OwnE wr W.heap.size u5 (wth l e) by rw [← ho]; exact HO.out)
        clear ho
        go_wp2
        go_ret
        obtain ⟨a', cap', rfl, h2⟩ := ents_of_own HO5.out
        exact ⟨a', cap', rfl, h2, by first | exact HB0.out.trans (HB.out.mono (by have := HR0.out.lt; omega)) | (rw [hN]; exact HB0.out.trans (HB.out.mono (by have := HR0.out.lt; omega)))⟩
end Go.Proofs.Ytkannambildnoaa

namespace Go.Proofs.Ytkannambildnoaa
open Go.RowKit

/-- What stays of a tree's entries when one is laid over it, ahead of it. -/
def keepE (e x : Ent) : Bool := if e.2.1 = 2 then (decide (pl x ≠ pl e) || (x.2.1 == 2)) else (decide (pl x ≠ pl e) && !upx (pl x) (pl e))
def flt (e : Ent) (o : List Ent) : List Ent := o.filter (keepE e)
/-- Is its directory there? -/
def hasD (e : Ent) (o : List Ent) : Bool := o.any fun x => decide (pl x = pl e) && (x.2.1 == 2) && (e.2.1 == 2)
theorem flt_take (e : Ent) (o : List Ent) (m : Nat) (h : m < o.length) : flt e (o.take (m + 1)) = flt e (o.take m) ++ (if keepE e o[m] then [o[m]] else []) := filter_take _ m h
theorem hasD_take (e : Ent) (o : List Ent) (m : Nat) (h : m < o.length) : hasD e (o.take (m + 1)) = (hasD e (o.take m) || (decide (pl o[m] = pl e) && (o[m].2.1 == 2) && (e.2.1 == 2))) := by
  unfold hasD
  rw [take_get o m h, List.any_append]
  simp
theorem flt_rst {e : Ent} {o : List Ent} (ho : TR o) (he : rE e = true) (hk : e.2.1 ≠ 2) : flt e o = rst o (pl e) := by
  unfold flt rst
  apply List.filter_congr
  intro x hx
  obtain ⟨p1, p2⟩ := rE_isP he
  obtain ⟨q1, _⟩ := rE_isP (ho.1.1 x hx)
  unfold keepE
  rw [if_neg hk, upx_und q1 p1 p2, Bool.and_comm]
theorem flt_dir {e : Ent} {o : List Ent} (ho : TR o) (hk : e.2.1 = 2) (hd : hasD e o = true) : flt e o = o ∧ wth o (dE e.1) = o := by
  unfold hasD at hd
  obtain ⟨x, hx, h1⟩ := List.any_eq_true.1 hd
  simp only [Bool.and_eq_true, decide_eq_true_eq, beq_iff_eq] at h1
  obtain ⟨⟨h1, h2⟩, _⟩ := h1
  have hxe : x = dE e.1 := by
    rw [dir_eq (ho.1.1 x hx) h2]
    have : x.1 = e.1 := ba_ext h1
    rw [this]
  refine ⟨List.filter_eq_self.2 fun y hy => ?_, wth_mem ho.1.2.1 (hxe ▸ hx)⟩
  unfold keepE
  rw [if_pos hk]
  by_cases hye : pl y = pl e
  · have : y = x := asc_inj ho.1.2.1 hy hx (hye.trans h1.symm)
    rw [this, h2]
    simp
  · simp [hye]
theorem wth_flt {e : Ent} {o : List Ent} (hk : e.2.1 = 2) (hd : hasD e o = false) : wth (flt e o) (dE e.1) = wth o (dE e.1) := by
  have hf : flt e o = wout o (pl e) := by
    unfold flt wout
    apply List.filter_congr
    intro x hx
    unfold keepE
    rw [if_pos hk]
    by_cases hxe : pl x = pl e
    · have := List.any_eq_false.1 hd x hx
      simp only [hxe, hk] at this
      simp at this
      simp [hxe, this]
    · simp [hxe]
  rw [hf]
  unfold wth wout
  rw [List.filter_filter, List.filter_filter]
  congr 1
  · apply List.filter_congr
    intro x _
    cases hx : lt8 (pl x) (pl (dE e.1)) with
    | false => rfl
    | true => have : pl x ≠ pl e := lt8_ne hx
              simp [this]
  · congr 1
    apply List.filter_congr
    intro x _
    cases hx : lt8 (pl (dE e.1)) (pl x) with
    | false => rfl
    | true => have : pl x ≠ pl e := (lt8_ne hx).symm
              simp [this]
theorem flat_len10 : ∀ t : List Ent, (t.flatMap enc).length = t.length * 3
  | [] => rfl
  | e :: r => by
    have := flat_len10 r
    rw [List.flatMap_cons, List.length_append, this, List.length_cons]
    simp
    omega
theorem flat_one10 {t : List Ent} {u : Value} (h : u ∈ t.flatMap enc) : u.oneCell' = true := by
  obtain ⟨e, _, hu⟩ := List.mem_flatMap.1 h
  rcases List.mem_cons.1 hu with rfl | hu
  · rfl
  rcases List.mem_cons.1 hu with rfl | hu
  · rfl
  rcases List.mem_cons.1 hu with rfl | hu
  · rfl
  cases hu
theorem ents_src {w : World} {a : Option Addr} {cap : Nat} {t : List Ent} (h : Ents w a cap t) : (∀ ad, a = some ad → ∀ j u, (t.flatMap enc)[j]? = some u → w.cell? (ad.add j) = some u) ∧ (a = none → t.length = 0) := by
  rcases h.2 with rfl | ⟨b, off, rfl, _, hc⟩
  · exact ⟨fun _ _ j u hu => by simp at hu, fun _ => rfl⟩
  · refine ⟨fun ad had j u hu => ?_, fun h => by cases h⟩
    obtain rfl := Option.some.inj had
    have hj : j = j / 3 * 3 + j % 3 := by omega
    rw [hj, flat_get t (j / 3) (j % 3) (by omega)] at hu
    obtain ⟨e, he, hu⟩ := Option.bind_eq_some_iff.1 hu
    have := hc (j / 3) e he (j % 3) u hu
    rw [Go.WideShapes.add_plain]
    rw [show off + j / 3 * 3 + j % 3 = off + j by omega] at this
    exact this
theorem own_empty (w : World) : OwnE (w.alloc (.cells #[] 34)) w.heap.size (.slice (some ⟨w.heap.size, 0, none⟩) 0 0) [] :=
  ⟨by simp, .inr ⟨w.heap.size, 0, #[], rfl, Nat.le_refl _, heap_alloc_new _ _, by simp⟩⟩
attribute [local go_sem ↓] old_ldi old_lds old_lde3 old_eqen old_neen
attribute [local go_sem] oldC_forall isC1_ptr isS1_ptr c1V_ptr isE3_ptr e3V_ptr isEv_agg evEq_agg eta_ent
set_option maxRecDepth 10000 in
set_option maxHeartbeats 8000000 in
theorem refOver10 (t l : List Ent) (a a2 : Option Addr) (cap cap2 : Nat) (w : World) (h : Ents w a cap t) (h2 : Ents w a2 cap2 l) (ht : TR t) (hl : RightL l) (hz : t.length ≤ 800) : Calls Try.prog 19 #[.slice a t.length cap, .slice a2 l.length cap2] w fun e w' => ∃ a' cap', e = .returned (.slice a' (over t l).length cap') ∧ Ents w' a' cap' (over t l) ∧ Below w.heap.size w w' := by
  obtain ⟨ie, hie, hz0, hsz, hby⟩ := info_parts infoEn
  have KI := Lib.hid (And.intro hie (And.intro hz0 (And.intro hsz hby)))
  have HE := Lib.hid h
  have HE2 := Lib.hid h2
  have HT := Lib.hid ht
  have HL := Lib.hid hl
  have HZ := Lib.hid hz
  clear h h2 ht hl hz hie hz0 hsz hby
  go_enter Try.func19, Try.ntmps19
  go_wp2_with (at_builtin; refine Stopped.go ?_)
  unfold Stopped
  refine wl_append_any (by rfl) _ _ 23 (by rfl) w.heap.size 34 ie _ 3 40 Try.underlying23 KI.out.1 KI.out.2.1 KI.out.2.2.1 KI.out.2.2.2 rfl (by decide) (.slice (some ⟨w.heap.size, 0, none⟩) 0 0) 0 [] (by rfl) (own_empty w) a t.length cap (t.flatMap enc) (by rfl) (flat_len10 t) (ents_src (HE.out.below ((Below.refl _ _).alloc (Nat.le_refl _) _))).1 (ents_src HE.out).2 (fun u hu => flat_one10 hu) (by have := HZ.out; unfold maxLen; omega) (by have := HZ.out; omega) (by simp) ?_
  intro v0 w0 ho hg
  have HB0 := Lib.hid (((Below.refl w.heap.size w).alloc (Nat.le_refl _) (.cells #[] 34)).grown hg (by simp) (fun k hk => (ownE_blk (own_empty w) k hk).1))
  have ho' : OwnE w0 w.heap.size v0 t := by unfold OwnE; rw [show t.length = 0 + t.length by omega]; exact ho
  obtain ⟨a0, cap0, hv0, hE0⟩ := ents_of_own ho'
  subst hv0
  have HE0 := Lib.hid hE0
  clear ho hg ho' hE0
  go_wp2
  go_loopg [5, 6] l.length (fun g v i wx => ∃ (n : Nat) (a5 : Option Addr) (cap5 : Nat) (o : List Ent), v = .slice a5 o.length cap5 ∧ i = .int .i64 (n : Int) ∧ n + g = l.length ∧ Hid (o = over t (l.take n)) ∧ Hid (Ents wx a5 cap5 o) ∧ Hid (Below w.heap.size w wx))
  case atStart => exact ⟨0, a0, cap0, t, rfl, rfl, by omega, rfl, HE0.out, HB0.out⟩
  case round =>
    obtain ⟨n, a5, cap5, o, rfl, rfl, hn, HO, HEO, HB⟩ := hrel
    by_cases hlt : n < l.length
    · have hlt' : (n : Int) < (l.length : Int) := by omega
      have hwn : IntKind.i64.wrap ((n : Int) + 1) = (n : Int) + 1 := IntWalk.i64_in _ (by have := HL.out.1; omega)
      have HTO := Lib.hid (show TR o by rw [HO.out]; exact tr_over HT.out (rl_take HL.out.2 n))
      have HOL := Lib.hid (show o.length ≤ 864 by
        rw [HO.out]
        have h1 := over_len (l.take n) t
        have := HL.out.1
        have := HZ.out
        rw [List.length_take] at h1
        omega)
      have HX := Lib.hid (HL.out.2.1 _ (List.getElem_mem hlt))
      have HNX := Lib.hid (show over t (l.take (n + 1)) = over1 o l[n] by rw [take_get l n hlt, over_snoc, ← HO.out])
      obtain ⟨x, hx⟩ : ∃ x, l[n] = x := ⟨_, rfl⟩
      rw [hx] at HX HNX
      have HXK := Lib.hid hx
      have HXS := Lib.hid (show x.1.size ≤ 54 by
        have := isP_len (rE_isP HX.out).1
        rw [← Lib.size_eq] at this
        exact this)
      clear hx
      obtain ⟨wb, hwb⟩ : ∃ wb, wb = wr := ⟨_, rfl⟩
      subst hwb
      go_wp2
      go_loopg [7, 8, 9] o.length (fun g v d i wx => ∃ (m : Nat) (db : Bool), d = .bool db ∧ i = .int .i64 (m : Int) ∧ m + g = o.length ∧ Hid (db = hasD x (o.take m)) ∧ Hid (OwnE wx wb.heap.size v (flt x (o.take m))) ∧ Hid (Below wb.heap.size wb wx))
      case atStart => exact ⟨0, false, rfl, rfl, by omega, rfl, by simpa [Hid, flt] using ownE_nil _ _, Below.refl _ _⟩
      case round =>
        obtain ⟨m, db, rfl, rfl, hm, HD, HOW, HBI⟩ := hrel
        by_cases hlm : m < o.length
        · have hlm' : (m : Int) < (o.length : Int) := by omega
          have hwm : IntKind.i64.wrap ((m : Int) + 1) = (m : Int) + 1 := IntWalk.i64_in _ (by have := HOL.out; omega)
          obtain ⟨b, off, e9, _, hc⟩ := Ents.at HEO.out HBI.out hlm
          have HFT := Lib.hid (flt_take x o m hlm)
          have HDT := Lib.hid (hasD_take x o m hlm)
          have HYR := Lib.hid (HTO.out.1.1 _ (List.getElem_mem hlm))
          obtain ⟨y, hy⟩ : ∃ y, o[m] = y := ⟨_, rfl⟩
          rw [hy] at hc HFT HDT HYR
          clear hy
          cases e9
          have c0 := hc.c0
          have c1 := hc.c1
          have c2 := hc.c2
          have HFL := Lib.hid (show (flt x (o.take m)).length ≤ 1000 by
            have h1 : (flt x (o.take m)).length ≤ (o.take m).length := List.length_filter_le _ _
            have := HOL.out
            rw [List.length_take] at h1
            omega)
          have hb : Below wr.heap.size wr (wr.alloc (.cells #[.string y.1, .int .i64 y.2.1, .string y.2.2] 34)) := (Below.refl _ _).alloc (Nat.le_refl _) _
          have hq := enAt_new wr y.1 y.2.1 y.2.2
          obtain ⟨w1, hw1⟩ : ∃ w1, wr.alloc (.cells #[.string y.1, .int .i64 y.2.1, .string y.2.2] 34) = w1 := ⟨_, rfl⟩
          obtain ⟨M1, hM1⟩ : ∃ M1, wr.heap.size = M1 := ⟨_, rfl⟩
          rw [hw1] at hb hq
          rw [hM1] at hq
          have HB1 := Lib.hid (HBI.out.trans (hb.mono HBI.out.size))
          have HO1 := Lib.hid (HOW.out.below hb)
          have HW1 := Lib.hid (HB.out.trans (HB1.out.mono HB.out.size))
          have HQy := Lib.hid hq
          clear hb hq hc
          obtain ⟨bq, oq, eq9, _, hcq⟩ := Ents.at HE2.out HW1.out hlt
          rw [HXK.out] at hcq
          cases eq9
          have x0 := hcq.c0
          have x1 := hcq.c1
          have x2 := hcq.c2
          clear hcq
          have y0 := HQy.out.c0
          have y1 := HQy.out.c1
          have y2 := HQy.out.c2
          have HU0 : Hid (∀ w0 w', OldC w0 w' → Calls Try.prog 21 #[.string y.1, .string x.1] w' fun e w'' => e = .returned (.bool (upx (pl y) (pl x))) ∧ OldC w0 w'') := fun w0 w' hw' => by
            refine (refUnd y.1 x.1 (by have := HXS.out; omega) w').mono ?_
            rintro e w'' ⟨rfl, rfl⟩
            exact ⟨rfl, hw'⟩
          obtain ⟨uv, huv⟩ : ∃ uv, upx (pl y) (pl x) = uv := ⟨_, rfl⟩
          rw [huv] at HU0
          have HU := HU0
          clear HU0
          have hh : (y.1.toList == x.1.toList) = decide (pl y = pl x) := by rw [Lib.toList_data, Lib.toList_data, Bool.eq_iff_iff, beq_iff_eq, decide_eq_true_iff]
          have ways : (keepE x y = true ∧ (((x.2.1 == 2) = true ∧ (y.1.toList == x.1.toList) = false ∧ hasD x (o.take (m + 1)) = db) ∨ ((x.2.1 == 2) = false ∧ (y.1.toList == x.1.toList) = false ∧ uv = false ∧ hasD x (o.take (m + 1)) = db))) ∨ (keepE x y = true ∧ ((x.2.1 == 2) = true ∧ (y.1.toList == x.1.toList) = true ∧ (y.2.1 == 2) = true ∧ hasD x (o.take (m + 1)) = true)) ∨ (keepE x y = false ∧ hasD x (o.take (m + 1)) = db ∧ (((x.2.1 == 2) = true ∧ (y.1.toList == x.1.toList) = true ∧ (y.2.1 == 2) = false) ∨ ((x.2.1 == 2) = false ∧ (y.1.toList == x.1.toList) = true ∧ (y.2.1 == 2) = true) ∨ ((x.2.1 == 2) = false ∧ (y.1.toList == x.1.toList) = true ∧ (y.2.1 == 2) = false) ∨ ((x.2.1 == 2) = false ∧ (y.1.toList == x.1.toList) = false ∧ uv = true))) := by
            rw [HDT.out, ← HD.out, hh]
            unfold keepE
            rw [huv]
            by_cases h1 : x.2.1 = 2
            · rw [if_pos h1, show (x.2.1 == 2) = true by rw [h1]; rfl]
              by_cases h2 : pl y = pl x
              · cases h3 : (y.2.1 == 2) with
                | true => exact .inr (.inl ⟨by simp, rfl, decide_eq_true h2, rfl, by simp [h2]⟩)
                | false => exact .inr (.inr ⟨by simp [h2], by simp, .inl ⟨rfl, decide_eq_true h2, rfl⟩⟩)
              · exact .inl ⟨by simp [h2], .inl ⟨rfl, decide_eq_false h2, by simp [h2]⟩⟩
            · rw [if_neg h1, show (x.2.1 == 2) = false from beq_eq_false_iff_ne.2 h1]
              by_cases h2 : pl y = pl x
              · cases h3 : (y.2.1 == 2) with
                | true => exact .inr (.inr ⟨by simp [h2], by simp, .inr (.inl ⟨rfl, decide_eq_true h2, rfl⟩)⟩)
                | false => exact .inr (.inr ⟨by simp [h2], by simp, .inr (.inr (.inl ⟨rfl, decide_eq_true h2, rfl⟩))⟩)
              · cases uv with
                | true => exact .inr (.inr ⟨by simp, by simp, .inr (.inr (.inr ⟨rfl, decide_eq_false h2, rfl⟩))⟩)
                | false => exact .inl ⟨by simp [h2], .inr ⟨rfl, decide_eq_false h2, rfl, by simp⟩⟩
          clear hh huv HD HDT
          rcases ways with ⟨hk, hway⟩ | ⟨hk, g1, g2, g3, hdn⟩ | ⟨hk, hdn, hway⟩
          · have HFN := Lib.hid (show flt x (o.take (m + 1)) = flt x (o.take m) ++ [y] by rw [HFT.out, if_pos hk])
            clear hk
            rcases hway with ⟨g1, g2, hdn⟩ | ⟨g1, g2, rfl, hdn⟩
            all_goals
              have g4 : (x.2.1 != 2) = !(x.2.1 == 2) := rfl
              rw [g1] at g4
              have HDN := Lib.hid hdn.symm
              clear hdn
              go_wp2
              refine wp_region_old (by kernel_rfl) (by kernel_rfl) ?_
              repeat (go_big_quiet_step (fail))
              refine wpQuiet_nil ?_
              intro w2 hb
              have HB2 := Lib.hid (show Below wb.heap.size wb w2 from HB1.out.trans (Below.mono hb HB1.out.size))
              have HO2 := Lib.hid (HO1.out.below hb)
              have HW2 := Lib.hid (show Below w.heap.size w w2 from HW1.out.trans (Below.mono hb HW1.out.size))
              replace HQy := Lib.hid (HQy.out.below hb)
              clear hb x0 x1 x2 y0 y1 y2
              obtain ⟨bq, oq, eq9, _, hcq⟩ := Ents.at HE2.out HW2.out hlt
              rw [HXK.out] at hcq
              cases eq9
              have x0 := hcq.c0
              have x1 := hcq.c1
              have x2 := hcq.c2
              clear hcq
              have y0 := HQy.out.c0
              have y1 := HQy.out.c1
              have y2 := HQy.out.c2
              go_wp2_with fail
              refine wp_region_old (by kernel_rfl) (by kernel_rfl) ?_
              repeat (go_big_quiet_step ((first | (intro hw; with_reducible exact HU.out _ _ hw))))
              refine wpQuiet_nil ?_
              intro w3 hb
              have HB3 := Lib.hid (show Below wb.heap.size wb w3 from HB2.out.trans (Below.mono hb HB2.out.size))
              have HO3 := Lib.hid (HO2.out.below hb)
              have HW3 := Lib.hid (show Below w.heap.size w w3 from HW2.out.trans (Below.mono hb HW2.out.size))
              replace HQy := Lib.hid (HQy.out.below hb)
              clear hb x0 x1 x2 y0 y1 y2
              have y0 := HQy.out.c0
              have y1 := HQy.out.c1
              have y2 := HQy.out.c2
              go_wp2_with (at_builtin; refine Stopped.go ?_)
              unfold Stopped
              refine wl_putE (by rfl) _ _ (by rfl) wb.heap.size u7 _ y (by rfl) (HO3.out.below ((Below.refl _ _).alloc (Nat.le_refl _) _)) (by have := HB3.out.size; simp; omega) w3.heap.size (by rfl) (enAt_new w3 y.1 y.2.1 y.2.2) HFL.out ?_
              intro v6 w6 ho hg
              have HB6 := Lib.hid ((HB3.out.alloc HB3.out.size (.cells #[.string y.1, .int .i64 y.2.1, .string y.2.2] 34)).grown hg (by have := HB3.out.size; simp; omega) (fun k hk => (ownE_blk HO3.out k hk).1))
              have HO6 := Lib.hid ho
              clear ho hg
              go_wp2
              go_roundg (o.length - (m + 1))
              case measure => omega
              case rel => exact ⟨m + 1, _, rfl, by simp, by omega, HDN.out, by rw [HFN.out]; exact HO6.out, HB6.out⟩
          · have HFN := Lib.hid (show flt x (o.take (m + 1)) = flt x (o.take m) ++ [y] by rw [HFT.out, if_pos hk])
            have HDN := Lib.hid hdn.symm
            clear hk hdn
            have g4 : (x.2.1 != 2) = !(x.2.1 == 2) := rfl
            rw [g1] at g4
            go_wp2
            refine wp_region_old (by kernel_rfl) (by kernel_rfl) ?_
            repeat (go_big_quiet_step (fail))
            refine wpQuiet_nil ?_
            intro w2 hb
            have HB2 := Lib.hid (show Below wb.heap.size wb w2 from HB1.out.trans (Below.mono hb HB1.out.size))
            have HO2 := Lib.hid (HO1.out.below hb)
            have HW2 := Lib.hid (show Below w.heap.size w w2 from HW1.out.trans (Below.mono hb HW1.out.size))
            replace HQy := Lib.hid (HQy.out.below hb)
            clear hb x0 x1 x2 y0 y1 y2
            obtain ⟨bq, oq, eq9, _, hcq⟩ := Ents.at HE2.out HW2.out hlt
            rw [HXK.out] at hcq
            cases eq9
            have x0 := hcq.c0
            have x1 := hcq.c1
            have x2 := hcq.c2
            clear hcq
            have y0 := HQy.out.c0
            have y1 := HQy.out.c1
            have y2 := HQy.out.c2
            go_wp2_with fail
            refine wp_region_old (by kernel_rfl) (by kernel_rfl) ?_
            repeat (go_big_quiet_step ((first | (intro hw; with_reducible exact HU.out _ _ hw))))
            refine wpQuiet_nil ?_
            intro w3 hb
            have HB3 := Lib.hid (show Below wb.heap.size wb w3 from HB2.out.trans (Below.mono hb HB2.out.size))
            have HO3 := Lib.hid (HO2.out.below hb)
            have HW3 := Lib.hid (show Below w.heap.size w w3 from HW2.out.trans (Below.mono hb HW2.out.size))
            replace HQy := Lib.hid (HQy.out.below hb)
            clear hb x0 x1 x2 y0 y1 y2
            have y0 := HQy.out.c0
            have y1 := HQy.out.c1
            have y2 := HQy.out.c2
            go_wp2_with (at_builtin; refine Stopped.go ?_)
            unfold Stopped
            refine wl_putE (by rfl) _ _ (by rfl) wb.heap.size u7 _ y (by rfl) (HO3.out.below ((Below.refl _ _).alloc (Nat.le_refl _) _)) (by have := HB3.out.size; simp; omega) w3.heap.size (by rfl) (enAt_new w3 y.1 y.2.1 y.2.2) HFL.out ?_
            intro v6 w6 ho hg
            have HB6 := Lib.hid ((HB3.out.alloc HB3.out.size (.cells #[.string y.1, .int .i64 y.2.1, .string y.2.2] 34)).grown hg (by have := HB3.out.size; simp; omega) (fun k hk => (ownE_blk HO3.out k hk).1))
            have HO6 := Lib.hid ho
            clear ho hg
            go_wp2
            go_roundg (o.length - (m + 1))
            case measure => omega
            case rel => exact ⟨m + 1, _, rfl, by simp, by omega, HDN.out, by rw [HFN.out]; exact HO6.out, HB6.out⟩
          · have HFN := Lib.hid (show flt x (o.take (m + 1)) = flt x (o.take m) by rw [HFT.out, if_neg (by rw [hk]; simp), List.append_nil])
            have HDN := Lib.hid hdn.symm
            clear hk hdn
            rcases hway with ⟨g1, g2, g3⟩ | ⟨g1, g2, g3⟩ | ⟨g1, g2, g3⟩ | ⟨g1, g2, rfl⟩
            all_goals
              have g4 : (x.2.1 != 2) = !(x.2.1 == 2) := rfl
              rw [g1] at g4
              go_wp2
              refine wp_region_old (by kernel_rfl) (by kernel_rfl) ?_
              repeat (go_big_quiet_step (fail))
              refine wpQuiet_nil ?_
              intro w2 hb
              have HB2 := Lib.hid (show Below wb.heap.size wb w2 from HB1.out.trans (Below.mono hb HB1.out.size))
              have HO2 := Lib.hid (HO1.out.below hb)
              have HW2 := Lib.hid (show Below w.heap.size w w2 from HW1.out.trans (Below.mono hb HW1.out.size))
              replace HQy := Lib.hid (HQy.out.below hb)
              clear hb x0 x1 x2 y0 y1 y2
              obtain ⟨bq, oq, eq9, _, hcq⟩ := Ents.at HE2.out HW2.out hlt
              rw [HXK.out] at hcq
              cases eq9
              have x0 := hcq.c0
              have x1 := hcq.c1
              have x2 := hcq.c2
              clear hcq
              have y0 := HQy.out.c0
              have y1 := HQy.out.c1
              have y2 := HQy.out.c2
              go_wp2_with fail
              refine wp_region_old (by kernel_rfl) (by kernel_rfl) ?_
              repeat (go_big_quiet_step ((first | (intro hw; with_reducible exact HU.out _ _ hw))))
              refine wpQuiet_nil ?_
              intro w3 hb
              have HB3 := Lib.hid (show Below wb.heap.size wb w3 from HB2.out.trans (Below.mono hb HB2.out.size))
              have HO3 := Lib.hid (HO2.out.below hb)
              have HW3 := Lib.hid (show Below w.heap.size w w3 from HW2.out.trans (Below.mono hb HW2.out.size))
              replace HQy := Lib.hid (HQy.out.below hb)
              clear hb x0 x1 x2 y0 y1 y2
              go_wp2
              go_roundg (o.length - (m + 1))
              case measure => omega
              case rel => exact ⟨m + 1, _, rfl, by simp, by omega, HDN.out, by rw [HFN.out]; exact HO3.out, HB3.out⟩
        · have hlm' : ¬ (m : Int) < (o.length : Int) := by omega
          have e9 : o.take m = o := List.take_of_length_le (by omega)
          rw [e9] at HD HOW
          obtain ⟨a7, cap7, hu7, h7⟩ := ents_of_own HOW.out
          subst hu7
          have HE7 := Lib.hid h7
          have HW7 := Lib.hid (HB.out.trans (HBI.out.mono HB.out.size))
          have HF9 := Lib.hid (show (flt x o).length ≤ 900 ∧ Asc (flt x o) ∧ ∀ y ∈ flt x o, y.1.size ≤ 100000 from ⟨Nat.le_trans (List.length_filter_le _ _) (by have := HOL.out; omega), HTO.out.1.2.1.filter _, fun y hy => by
            have := isP_len (rE_isP (HTO.out.1.1 y (List.mem_filter.1 hy).1)).1
            rw [← Lib.size_eq] at this
            omega⟩)
          clear e9 h7
          obtain ⟨bq, oq, eq9, _, hcq⟩ := Ents.at HE2.out HW7.out hlt
          rw [HXK.out] at hcq
          cases eq9
          have x0 := hcq.c0
          have x1 := hcq.c1
          have x2 := hcq.c2
          clear hcq
          have hk := kind_of HX.out
          by_cases k1 : x.2.1 = 1
          · have g1 : (x.2.1 == 1) = true := by rw [k1]; rfl
            have g2 : (x.2.1 == 2) = false := by rw [k1]; rfl
            have g4 : (x.2.1 == 4) = false := by rw [k1]; rfl
            have HV := Lib.hid (show wth (flt x o) x = over1 o x by rw [flt_rst HTO.out HX.out (by omega)]; unfold over1; rw [if_neg (by omega), if_pos k1])
            clear hk k1
            go_wp2_with fail
            refine (refWith9 (flt x o) a7 cap7 x _ HE7.out HF9.out.1 HF9.out.2.1 HF9.out.2.2 (by have := HXS.out; show x.1.size ≤ _; omega)).mono ?_
            rintro e w8 ⟨a8, cap8, rfl, h8, hb⟩
            have HB8 := Lib.hid (HW7.out.trans (hb.mono HW7.out.size))
            have HE8 := Lib.hid h8
            rw [HV.out] at HE8 ⊢
            clear hb h8 x0 x1 x2
            obtain ⟨bq, oq, eq9, _, hcq⟩ := Ents.at HE2.out HB8.out hlt
            rw [HXK.out] at hcq
            cases eq9
            have x0 := hcq.c0
            have x1 := hcq.c1
            have x2 := hcq.c2
            clear hcq
            go_wp2
            go_roundg (l.length - (n + 1))
            case measure => omega
            case rel => exact ⟨n + 1, a8, cap8, _, rfl, by simp, by omega, HNX.out.symm, HE8.out, HB8.out⟩
          · have g1 : (x.2.1 == 1) = false := beq_eq_false_iff_ne.2 k1
            by_cases k2 : x.2.1 = 2
            · have g2 : (x.2.1 == 2) = true := by rw [k2]; rfl
              have g4 : (x.2.1 == 4) = false := by rw [k2]; rfl
              cases db with
              | true =>
                have HV := Lib.hid (show flt x o = over1 o x by
                  have h9 := flt_dir HTO.out k2 HD.out.symm
                  rw [h9.1]
                  unfold over1
                  rw [if_pos k2, h9.2])
                clear hk k1 k2
                rw [HV.out] at HE7 ⊢
                go_wp2
                go_roundg (l.length - (n + 1))
                case measure => omega
                case rel => exact ⟨n + 1, a7, cap7, _, rfl, by simp, by omega, HNX.out.symm, HE7.out, HW7.out⟩
              | false =>
                have HV := Lib.hid (show wth (flt x o) (dE x.1) = over1 o x by
                  rw [wth_flt k2 HD.out.symm]
                  unfold over1
                  rw [if_pos k2])
                clear hk k1 k2
                go_wp2_with fail
                refine (refWith9 (flt x o) a7 cap7 (dE x.1) _ HE7.out HF9.out.1 HF9.out.2.1 HF9.out.2.2 (by have := HXS.out; show x.1.size ≤ _; omega)).mono ?_
                rintro e w8 ⟨a8, cap8, rfl, h8, hb⟩
                have HB8 := Lib.hid (HW7.out.trans (hb.mono HW7.out.size))
                have HE8 := Lib.hid h8
                rw [HV.out] at HE8 ⊢
                clear hb h8 x0 x1 x2
                obtain ⟨bq, oq, eq9, _, hcq⟩ := Ents.at HE2.out HB8.out hlt
                rw [HXK.out] at hcq
                cases eq9
                have x0 := hcq.c0
                have x1 := hcq.c1
                have x2 := hcq.c2
                clear hcq
                go_wp2
                go_roundg (l.length - (n + 1))
                case measure => omega
                case rel => exact ⟨n + 1, a8, cap8, _, rfl, by simp, by omega, HNX.out.symm, HE8.out, HB8.out⟩
            · have g2 : (x.2.1 == 2) = false := beq_eq_false_iff_ne.2 k2
              by_cases k4 : x.2.1 = 4
              · have g4 : (x.2.1 == 4) = true := by rw [k4]; rfl
                have HV := Lib.hid (show wth (flt x o) (dE x.1) = over1 o x by rw [flt_rst HTO.out HX.out k2]; unfold over1; rw [if_neg k2, if_neg k1, if_pos k4])
                clear hk k1 k2 k4
                go_wp2_with fail
                refine (refWith9 (flt x o) a7 cap7 (dE x.1) _ HE7.out HF9.out.1 HF9.out.2.1 HF9.out.2.2 (by have := HXS.out; show x.1.size ≤ _; omega)).mono ?_
                rintro e w8 ⟨a8, cap8, rfl, h8, hb⟩
                have HB8 := Lib.hid (HW7.out.trans (hb.mono HW7.out.size))
                have HE8 := Lib.hid h8
                rw [HV.out] at HE8 ⊢
                clear hb h8 x0 x1 x2
                obtain ⟨bq, oq, eq9, _, hcq⟩ := Ents.at HE2.out HB8.out hlt
                rw [HXK.out] at hcq
                cases eq9
                have x0 := hcq.c0
                have x1 := hcq.c1
                have x2 := hcq.c2
                clear hcq
                go_wp2
                go_roundg (l.length - (n + 1))
                case measure => omega
                case rel => exact ⟨n + 1, a8, cap8, _, rfl, by simp, by omega, HNX.out.symm, HE8.out, HB8.out⟩
              · have g4 : (x.2.1 == 4) = false := beq_eq_false_iff_ne.2 k4
                have HV := Lib.hid (show flt x o = over1 o x by rw [flt_rst HTO.out HX.out k2]; unfold over1; rw [if_neg k2, if_neg k1, if_neg k4])
                clear hk k1 k2 k4
                rw [HV.out] at HE7 ⊢
                go_wp2
                go_roundg (l.length - (n + 1))
                case measure => omega
                case rel => exact ⟨n + 1, a7, cap7, _, rfl, by simp, by omega, HNX.out.symm, HE7.out, HW7.out⟩
    · have hlt' : ¬ (n : Int) < (l.length : Int) := by omega
      have HV := Lib.hid (show o = over t l by rw [HO.out, List.take_of_length_le (by omega)])
      go_wp2
      go_ret
      exact ⟨a5, cap5, by rw [← HV.out]; rfl, by rw [← HV.out]; exact HEO.out, HB.out⟩
end Go.Proofs.Ytkannambildnoaa

namespace Go.Proofs.Ytkannambildnoaa
open Go.RowKit

/-- A stack of layers in memory. -/
def Stk (w : World) (a : Option Addr) (cap : Nat) (S : List (List Ent)) : Prop :=
  S.length ≤ cap ∧ (S = [] ∨ ∃ b off, a = some ⟨b, off, none⟩ ∧ b < w.heap.size ∧ ∀ (j : Nat) l, S[j]? = some l → ∃ a' cap', w.cell? ⟨b, off + j, none⟩ = some (.slice a' l.length cap') ∧ Ents w a' cap' l)
theorem stk_empty (w : World) (a : Option Addr) (cap : Nat) : Stk w a cap [] := ⟨by simp, .inl rfl⟩
theorem Stk.below {w w' : World} {a : Option Addr} {cap : Nat} {S : List (List Ent)} (h : Stk w a cap S) (hb : Below w.heap.size w w') : Stk w' a cap S := by
  obtain ⟨h1, h2⟩ := h
  refine ⟨h1, h2.imp_right ?_⟩
  rintro ⟨b, off, rfl, hlt, hc⟩
  refine ⟨b, off, rfl, Nat.lt_of_lt_of_le hlt hb.size, fun j l hl => ?_⟩
  obtain ⟨a', cap', h3, h4⟩ := hc j l hl
  exact ⟨a', cap', (hb.cell (p := ⟨b, off + j, none⟩) hlt).trans h3, RowN.below h4 hb⟩
theorem Stk.at {w w' : World} {a : Option Addr} {cap : Nat} {S : List (List Ent)} (h : Stk w a cap S) (hb : Below w.heap.size w w') {k : Nat} (hk : k < S.length) :
    ∃ b off a' cap', a = some ⟨b, off, none⟩ ∧ w'.cell? ⟨b, off + k, none⟩ = some (.slice a' (S[k]).length cap') ∧ Ents w' a' cap' S[k] := by
  have h := h.below hb
  rcases h.2 with h0 | ⟨b, off, rfl, hlt, hc⟩
  · rw [h0] at hk; simp at hk
  · obtain ⟨a', cap', h3, h4⟩ := hc k S[k] (List.getElem?_eq_getElem hk)
    exact ⟨b, off, a', cap', rfl, h3, h4⟩
theorem Stk.take {w : World} {a : Option Addr} {cap : Nat} {S : List (List Ent)} (h : Stk w a cap S) (n : Nat) : Stk w a cap (S.take n) := by
  obtain ⟨h1, h2⟩ := h
  refine ⟨by rw [List.length_take]; omega, ?_⟩
  rcases h2 with rfl | ⟨b, off, rfl, hlt, hc⟩
  · exact .inl (by simp)
  · refine .inr ⟨b, off, rfl, hlt, fun j l hl => hc j l ?_⟩
    rw [List.getElem?_take] at hl
    split at hl
    · exact hl
    · cases hl
end Go.Proofs.Ytkannambildnoaa

namespace Go.Proofs.Ytkannambildnoaa
open Go.RowKit

/-- A stack of a size that is looked at. -/
def FewOK (S : List (List Ent)) : Prop := S.length ≤ 12 ∧ ∀ l ∈ S, SizeOK l
instance (S : List (List Ent)) : Decidable (FewOK S) := inferInstanceAs (Decidable (_ ∧ _))
set_option maxRecDepth 10000 in
set_option maxHeartbeats 1000000 in
theorem few10 (S : List (List Ent)) (a : Option Addr) (cap : Nat) (w : World) (h : Stk w a cap S) : Calls Try.prog 10 #[.slice a S.length cap] w fun e w' => e = .returned (.int .i64 (if FewOK S then 1 else 0)) ∧ w = w' := by
  obtain ⟨R, hR⟩ : ∃ R : Int, (if FewOK S then 1 else 0) = R := ⟨_, rfl⟩
  rw [hR]
  have HR := Lib.hid hR
  clear hR
  by_cases h12 : S.length ≤ 12
  · have HE := Lib.hid h
    have HL := Lib.hid h12
    have g12 : ¬ (12 : Int) < (S.length : Int) := by omega
    clear h
    go_enter Try.func10, Try.ntmps10
    go_wp2
    go_loopg [3] S.length (fun g i wx => ∃ k : Nat, i = .int .i64 (k : Int) ∧ k + g = S.length ∧ Hid (∀ l ∈ S.take k, SizeOK l) ∧ w = wx)
    case atStart => exact ⟨0, rfl, by omega, by intro e he; simp at he, rfl⟩
    case round =>
      obtain ⟨k, rfl, hk, HI, rfl⟩ := hrel
      by_cases hlt : k < S.length
      · have hlt' : (k : Int) < (S.length : Int) := by omega
        obtain ⟨b, off, a', cap', rfl, hc, hE⟩ := HE.out.at (Below.refl _ _) hlt
        have HT := Lib.hid (take_get S k hlt)
        have HM := Lib.hid (List.getElem_mem hlt)
        obtain ⟨x, hx⟩ : ∃ x, S[k] = x := ⟨_, rfl⟩
        rw [hx] at hc hE HT HM
        have HEx := Lib.hid hE
        clear hx hE
        go_wp2_with fail
        refine (size9 x a' cap' _ HEx.out).mono ?_
        rintro e w1 ⟨rfl, rfl⟩
        by_cases hz : SizeOK x
        · rw [if_pos hz]
          have HX := Lib.hid hz
          clear hz
          go_wp2
          go_roundg (gk - 1)
          case measure => omega
          case rel =>
            refine ⟨k + 1, by simp, by omega, ?_, rfl⟩
            intro e he
            rw [HT.out] at he
            rcases List.mem_append.1 he with he | he
            · exact HI.out e he
            · obtain rfl : e = x := by simpa using he
              exact HX.out
        · rw [if_neg hz]
          have HX := Lib.hid (show R = 0 by rw [← HR.out, if_neg fun h => hz (h.2 x HM.out)])
          clear hz
          go_wp2
          go_ret
          exact ⟨by rw [HX.out]; rfl, rfl⟩
      · have hlt' : ¬ (k : Int) < (S.length : Int) := by omega
        have HX := Lib.hid (show R = 1 by rw [← HR.out, if_pos ⟨HL.out, fun e he => HI.out e (by rw [List.take_of_length_le (by omega)]; exact he)⟩])
        go_wp2
        go_ret
        exact ⟨by rw [HX.out]; rfl, rfl⟩
  · have g12 : (12 : Int) < (S.length : Int) := by omega
    have HX := Lib.hid (show R = 0 by rw [← HR.out, if_neg fun h => h12 h.1])
    clear h h12
    go_enter Try.func10, Try.ntmps10
    go_wp2
    go_ret
    exact ⟨by rw [HX.out]; rfl, rfl⟩
set_option maxRecDepth 10000 in
set_option maxHeartbeats 1000000 in
theorem refStack10 (S : List (List Ent)) (a : Option Addr) (cap : Nat) (w : World) (h : Stk w a cap S) (h12 : S.length ≤ 12) (hr : ∀ l ∈ S, RightL l) : Calls Try.prog 20 #[.slice a S.length cap] w fun e w' => ∃ a' cap', e = .returned (.slice a' (stk S).length cap') ∧ Ents w' a' cap' (stk S) ∧ Below w.heap.size w w' := by
  have HE := Lib.hid h
  have HL := Lib.hid h12
  have HR := Lib.hid hr
  clear h h12 hr
  go_enter Try.func20, Try.ntmps20
  go_wp2
  go_loopg [3, 4] S.length (fun g v i wx => ∃ (k : Nat) (a5 : Option Addr) (cap5 : Nat) (o : List Ent), v = .slice a5 o.length cap5 ∧ i = .int .i64 (k : Int) ∧ k + g = S.length ∧ Hid (o = stk (S.take k)) ∧ Hid (Ents wx a5 cap5 o) ∧ Hid (Below w.heap.size w wx))
  case atStart => exact ⟨0, none, 0, [], rfl, rfl, by omega, rfl, ents_nil _ _ _, Below.refl _ _⟩
  case round =>
    obtain ⟨k, a5, cap5, o, rfl, rfl, hk, HO, HEO, HB⟩ := hrel
    by_cases hlt : k < S.length
    · have hlt' : (k : Int) < (S.length : Int) := by omega
      have hw : IntKind.i64.wrap ((k : Int) + 1) = (k : Int) + 1 := IntWalk.i64_in _ (by have := HL.out; omega)
      have HRT : Hid (∀ l ∈ S.take k, RightL l) := fun l hl => HR.out l (List.mem_of_mem_take hl)
      have HTO := Lib.hid (show TR o by rw [HO.out]; exact tr_stk HRT.out)
      have HOL := Lib.hid (show o.length ≤ 800 by
        rw [HO.out]
        have h1 := stk_len HRT.out
        have := HL.out
        rw [List.length_take] at h1
        omega)
      obtain ⟨b, off, a', cap', rfl, hc, hE⟩ := HE.out.at HB.out hlt
      have HX := Lib.hid (HR.out _ (List.getElem_mem hlt))
      have HN := Lib.hid (show stk (S.take (k + 1)) = over o S[k] by rw [take_get S k hlt, stk_snoc, ← HO.out])
      obtain ⟨x, hx⟩ : ∃ x, S[k] = x := ⟨_, rfl⟩
      rw [hx] at hc hE HX HN
      have HEx := Lib.hid hE
      clear hx hE
      go_wp2_with fail
      refine (refOver10 o x a5 a' cap5 cap' _ HEO.out HEx.out HTO.out HX.out HOL.out).mono ?_
      rintro e w1 ⟨a8, cap8, rfl, h8, hb⟩
      have HB8 := Lib.hid (HB.out.trans (hb.mono HB.out.size))
      have HE8 := Lib.hid h8
      clear hb h8
      go_wp2
      go_roundg (gk - 1)
      case measure => omega
      case rel => exact ⟨k + 1, a8, cap8, _, rfl, by simp, by omega, HN.out.symm, HE8.out, HB8.out⟩
    · have hlt' : ¬ (k : Int) < (S.length : Int) := by omega
      have HV := Lib.hid (show o = stk S by rw [HO.out, List.take_of_length_le (by omega)])
      go_wp2
      go_ret
      exact ⟨a5, cap5, by rw [← HV.out]; rfl, by rw [← HV.out]; exact HEO.out, HB.out⟩
end Go.Proofs.Ytkannambildnoaa

namespace Go.Proofs.Ytkannambildnoaa
open Go.RowKit

/-- Of a size that the contracts take. -/
def Sm (l : List Ent) : Prop := l.length ≤ 1000 ∧ ∀ e ∈ l, e.1.size ≤ 100000 ∧ e.2.2.size ≤ 100000
theorem right_nil : RightL [] := ⟨by simp, rl_nil⟩
theorem sm_nil : Sm [] := ⟨by simp, by simp⟩
theorem sm_right {l : List Ent} (h : RightL l) : Sm l := ⟨by have := h.1; omega, fun e he => by
  obtain ⟨h1, _, _, h4, _⟩ := rightE_parts (h.2.1 e he)
  have h54 := isP_len (isP_of_dp h1)
  rw [← Lib.size_eq] at h54
  omega⟩
theorem sm_size {l : List Ent} (h : SizeOK l) : Sm l := ⟨by have := h.1; omega, fun e he => by have := h.2 e he; omega⟩
theorem sm_one {x : Ent} (h : rE x = true) : Sm [x] := ⟨by simp, fun e he => by
  obtain rfl : e = x := by simpa using he
  obtain ⟨h1, _, _, h4, _⟩ := rightE_parts h
  have h54 := isP_len (isP_of_dp h1)
  rw [← Lib.size_eq] at h54
  omega⟩
end Go.Proofs.Ytkannambildnoaa

namespace Go.Proofs.Ytkannambildnoaa
open Go.RowKit

def ovV (t l : List Ent) : List Ent := if TreeL t ∧ RightL l ∧ (over t l).length ≤ 1024 then over t l else []
def stV (S : List (List Ent)) : List Ent := if S.length ≤ 9 ∧ ∀ l ∈ S, RightL l then stk S else []
structure Fold10 : Prop where
  right : ∀ l a cap w, Env w → Ents w a cap l → Sm l → Calls Try.prog 15 #[.slice a l.length cap] w fun e w' => e = .returned (.bool (decide (RightL l))) ∧ Below w.heap.size w w'
  tree : ∀ l a cap w, Env w → Ents w a cap l → Sm l → Calls Try.prog 13 #[.slice a l.length cap] w fun e w' => e = .returned (.bool (decide (TreeL l))) ∧ Below w.heap.size w w'
  over : ∀ t l a cap a2 cap2 w, Env w → Ents w a cap t → Ents w a2 cap2 l → Sm t → Sm l → Calls Try.prog 14 #[.slice a t.length cap, .slice a2 l.length cap2] w fun e w' => ∃ a' cap', e = .returned (.slice a' (ovV t l).length cap') ∧ Ents w' a' cap' (ovV t l) ∧ Below w.heap.size w w'
  stack : ∀ S a cap w, Env w → Stk w a cap S → S.length ≤ 100 → (∀ l ∈ S, Sm l) → Calls Try.prog 12 #[.slice a S.length cap] w fun e w' => ∃ a' cap', e = .returned (.slice a' (stV S).length cap') ∧ Ents w' a' cap' (stV S) ∧ Below w.heap.size w w'
/-- What was there when the call began is as it was. -/
structure St10 (W w : World) : Prop where
  below : Below W.heap.size W w
  env : Env w
theorem st10_self {w : World} (h : Env w) : St10 w w := ⟨Below.refl _ _, h⟩
theorem St10.next {W w w' : World} (h : St10 W w) (hb : Below w.heap.size w w') : St10 W w' := ⟨h.below.trans (hb.mono h.below.size), h.env.below hb⟩
theorem St10.old {W w w' : World} (h : St10 W w) (hb : OldC w w') : St10 W w' := h.next hb
theorem sm_tr {t : List Ent} (h : TR t) (hl : t.length ≤ 1000) : Sm t := ⟨hl, fun e he => by
  obtain ⟨h1, _, _, h4, _⟩ := rightE_parts (h.1.1 e he)
  have h54 := isP_len (isP_of_dp h1)
  rw [← Lib.size_eq] at h54
  omega⟩
theorem stV_tree (S : List (List Ent)) : TR (stV S) ∧ (stV S).length ≤ 576 := by
  unfold stV
  split
  · rename_i h
    have h1 := stk_len h.2
    exact ⟨tr_stk h.2, by have := h.1; omega⟩
  · exact ⟨tr_nil, by simp⟩
theorem stV_sm (S : List (List Ent)) : Sm (stV S) := sm_tr (stV_tree S).1 (by have := (stV_tree S).2; omega)
theorem ovV_tree {t l : List Ent} (ht : TR t) : TR (ovV t l) := by
  unfold ovV
  split
  · rename_i h
    exact tr_over ht h.2.1.2
  · exact tr_nil
end Go.Proofs.Ytkannambildnoaa

namespace Go.Proofs.Ytkannambildnoaa
open Go.RowKit

/-- Does an entry of a tree go when a layer is laid over it? -/
def goes (l : List Ent) (x : Ent) : Bool := l.any fun e => decide (pl x = pl e) || (e.2.1 != 2 && und (pl x) (pl e))
/-- What stays of a tree. -/
def kept (t l : List Ent) : List Ent := t.filter fun x => !goes l x
/-- What a layer shows of its own. -/
def news (l : List Ent) : List Ent := (l.filter fun e => e.2.1 != 3).map sh
theorem goes_false {l : List Ent} {x : Ent} : goes l x = false ↔ ∀ e ∈ l, pl x ≠ pl e ∧ (e.2.1 ≠ 2 → und (pl x) (pl e) = false) := by
  unfold goes
  rw [List.any_eq_false]
  constructor
  · intro h e he
    have h1 := h e he
    rw [Bool.or_eq_true, decide_eq_true_iff, Bool.and_eq_true, bne_iff_ne] at h1
    refine ⟨fun h2 => h1 (.inl h2), fun h2 => ?_⟩
    cases hu : und (pl x) (pl e) with
    | false => rfl
    | true => exact absurd (.inr ⟨h2, hu⟩) h1
  · intro h e he h1
    rw [Bool.or_eq_true, decide_eq_true_iff, Bool.and_eq_true, bne_iff_ne] at h1
    rcases h1 with h1 | ⟨h1, h2⟩
    · exact (h e he).1 h1
    · rw [(h e he).2 h1] at h2
      cases h2
theorem mem_pile {t l : List Ent} {x : Ent} : x ∈ kept t l ++ news l ↔ (∃ e ∈ l, e.2.1 ≠ 3 ∧ x = sh e) ∨ (x ∈ t ∧ ∀ e ∈ l, pl x ≠ pl e ∧ (e.2.1 ≠ 2 → und (pl x) (pl e) = false)) := by
  unfold kept news
  rw [List.mem_append, List.mem_filter, List.mem_map, ← goes_false]
  constructor
  · rintro (⟨h1, h2⟩ | ⟨e, he, rfl⟩)
    · exact .inr ⟨h1, by simpa using h2⟩
    · obtain ⟨h3, h4⟩ := List.mem_filter.1 he
      exact .inl ⟨e, h3, by simpa using h4, rfl⟩
  · rintro (⟨e, he, h1, rfl⟩ | ⟨h1, h2⟩)
    · exact .inr ⟨e, List.mem_filter.2 ⟨he, by simpa using h1⟩, rfl⟩
    · exact .inl ⟨h1, by rw [h2]; rfl⟩
theorem pile_ne {t l : List Ent} (ht : Asc t) (hl : Asc l) : (kept t l ++ news l).Pairwise fun a b => pl a ≠ pl b := by
  rw [List.pairwise_append]
  refine ⟨?_, ?_, ?_⟩
  · exact (List.Pairwise.filter _ ht).imp fun h => lt8_ne h
  · unfold news
    rw [List.pairwise_map]
    exact (List.Pairwise.filter _ hl).imp fun h => by rw [pl_sh, pl_sh]; exact lt8_ne h
  · intro a ha b hb
    obtain ⟨_, h2⟩ := List.mem_filter.1 ha
    unfold news at hb
    obtain ⟨e, he, rfl⟩ := List.mem_map.1 hb
    rw [pl_sh]
    exact (goes_false.1 (by simpa using h2) e (List.mem_filter.1 he).1).1
theorem pile_len (t l : List Ent) : (kept t l ++ news l).length ≤ t.length + l.length := by
  unfold kept news
  rw [List.length_append, List.length_map]
  have h1 := List.length_filter_le (fun x => !goes l x) t
  have h2 := List.length_filter_le (fun e : Ent => e.2.1 != 3) l
  omega
/-- What is there, sorted by its paths, is what the layer laid over the tree comes to. -/
theorem pile_sorted {t l c : List Ent} (ht : Asc t) (hl : Asc l) (hr : ∀ e ∈ l, rE e = true) (hp : c.Perm (kept t l ++ news l)) (hs : c.Pairwise fun a b => lt8 (pl b) (pl a) = false) : c = over t l := by
  have hne : c.Pairwise fun a b => pl a ≠ pl b := (hp.pairwise_iff fun h => Ne.symm h).2 (pile_ne ht hl)
  have hA : Asc c := (hs.and hne).imp fun ⟨h1, h2⟩ => by
    rcases lt8_tri _ _ with h | h | h
    · exact absurd h h2
    · exact h
    · rw [h1] at h
      cases h
  refine asc_ext hA (asc_over ht) fun x => ?_
  rw [hp.mem_iff, mem_pile, mem_over hr hl]
theorem kept_snoc (t l : List Ent) (x : Ent) : kept (t ++ [x]) l = if goes l x = true then kept t l else kept t l ++ [x] := by
  unfold kept
  rw [List.filter_append]
  cases h : goes l x <;> simp [h]
theorem news_snoc (l : List Ent) (x : Ent) : news (l ++ [x]) = if x.2.1 = 3 then news l else news l ++ [sh x] := by
  unfold news
  rw [List.filter_append, List.map_append]
  by_cases h : x.2.1 = 3
  · simp [h]
  · simp [h]
end Go.Proofs.Ytkannambildnoaa

namespace Go.Proofs.Ytkannambildnoaa
open Go.RowKit

/-- What a layer's map has. -/
def kd (l : List Ent) : List UInt8 → Option Value := l.foldl (fun f e => fun x => if x = pl e then some (.int .i64 e.2.1) else f x) fun _ => none
theorem kd_snoc (l : List Ent) (e : Ent) : kd (l ++ [e]) = fun x => if x = pl e then some (.int .i64 e.2.1) else kd l x := by unfold kd; rw [List.foldl_append]; rfl
theorem kd_fnd {l : List Ent} (h : Asc l) (p : List UInt8) : kd l p = (fnd l p).map fun e => .int .i64 e.2.1 := by
  have key : ∀ n (l : List Ent), l.length = n → Asc l → kd l p = (fnd l p).map fun e => .int .i64 e.2.1 := by
    intro n
    induction n with
    | zero => intro l hl _; rw [List.length_eq_zero_iff.1 hl]; rfl
    | succ n ih =>
      intro l hl hA
      rcases List.eq_nil_or_concat l with rfl | ⟨r, e, rfl⟩
      · simp at hl
      · rw [List.concat_eq_append] at *
        obtain ⟨h1, h2⟩ := asc_snoc.1 hA
        rw [kd_snoc]
        show (if p = pl e then some (.int .i64 e.2.1) else kd r p) = _
        rw [ih r (by simpa using hl) h1]
        by_cases hp : p = pl e
        · simp only [if_pos hp]
          rw [(fnd_some hA).2 ⟨by simp, hp.symm⟩]
          rfl
        · simp only [if_neg hp]
          congr 1
          unfold fnd
          rw [List.find?_append, List.find?_cons_of_neg (by simpa using fun h => hp h.symm)]
          simp
  exact key _ l rfl h
/-- Is a path, or one above it, that of an entry that lets nothing through? -/
def gup (l : List Ent) (p : List UInt8) : Bool := l.any fun e => e.2.1 != 2 && (decide (p = pl e) || und p (pl e))
/-- Is it the path itself? -/
def gat (l : List Ent) (p : List UInt8) : Bool := match fnd l p with
  | some e => e.2.1 != 2
  | none => false
theorem gup_any {l : List Ent} {p : List UInt8} (f : Ent → Bool) (h : ∀ e ∈ l, (e.2.1 != 2 && (decide (p = pl e) || und p (pl e))) = f e) : gup l p = l.any f := by
  unfold gup
  rw [Bool.eq_iff_iff, List.any_eq_true, List.any_eq_true]
  exact ⟨fun ⟨e, h1, h2⟩ => ⟨e, h1, by rw [← h e h1]; exact h2⟩, fun ⟨e, h1, h2⟩ => ⟨e, h1, by rw [h e h1]; exact h2⟩⟩
theorem gat_any {l : List Ent} (hA : Asc l) (p : List UInt8) : gat l p = l.any fun e => e.2.1 != 2 && decide (p = pl e) := by
  unfold gat
  cases hf : fnd l p with
  | none =>
    have := fnd_none.1 hf
    rw [eq_comm, List.any_eq_false]
    intro e he h
    rw [Bool.and_eq_true, decide_eq_true_iff] at h
    exact this e he h.2.symm
  | some e =>
    obtain ⟨h1, h2⟩ := (fnd_some hA).1 hf
    show (e.2.1 != 2) = _
    rw [Bool.eq_iff_iff, List.any_eq_true]
    constructor
    · intro h
      exact ⟨e, h1, by rw [h, decide_eq_true h2.symm]; rfl⟩
    · rintro ⟨x, h3, h4⟩
      rw [Bool.and_eq_true, decide_eq_true_iff] at h4
      obtain rfl := asc_inj hA h1 h3 (h2.trans h4.2)
      exact h4.1
theorem any_or {α : Type} (l : List α) (f g : α → Bool) : (l.any fun e => f e || g e) = (l.any f || l.any g) := by
  induction l with
  | nil => rfl
  | cons x r ih => simp only [List.any_cons, ih]; cases f x <;> cases g x <;> simp
theorem gup_step {l : List Ent} (hA : Asc l) {p : List UInt8} (hp : isP p) (h1 : p ≠ [47]) : gup l p = (gat l p || gup l (par9 p)) := by
  rw [gat_any hA]
  unfold gup
  rw [← any_or]
  congr 1
  funext e
  rw [und_par9 hp h1, show decide (pl e = par9 p) = decide (par9 p = pl e) from by rw [decide_eq_decide]; exact eq_comm]
  cases e.2.1 != 2 <;> simp
theorem root_und (q : List UInt8) : und [47] q = false := by
  cases h : und [47] q with
  | false => rfl
  | true =>
    obtain ⟨h1, h2⟩ := und_longer h
    have h3 : isP q := by
      unfold und at h
      exact (of_decide_eq_true h).2.1
    have := h3.1
    cases q with
    | nil => simp at this
    | cons c r => simp at h2
theorem gup_root {l : List Ent} (hr : ∀ e ∈ l, rE e = true) : gup l [47] = false ∧ gat l [47] = false := by
  refine ⟨?_, ?_⟩
  · unfold gup
    rw [List.any_eq_false]
    intro e he h
    rw [root_und, Bool.or_false, Bool.and_eq_true, decide_eq_true_iff] at h
    exact (rE_isP (hr e he)).2 h.2.symm
  · unfold gat
    rw [fnd_none.2 fun e he => (rE_isP (hr e he)).2]
theorem goes_gup {l : List Ent} {x : Ent} (hx : rE x = true) : goes l x = ((fnd l (pl x)).isSome || gup l (par9 (pl x))) := by
  obtain ⟨p1, p2⟩ := rE_isP hx
  have h1 : (fnd l (pl x)).isSome = l.any fun e => decide (pl x = pl e) := by
    unfold fnd
    rw [Bool.eq_iff_iff, List.find?_isSome, List.any_eq_true]
    constructor
    · rintro ⟨e, h1, h2⟩
      exact ⟨e, h1, by simpa using (by simpa using h2 : pl e = pl x).symm⟩
    · rintro ⟨e, h1, h2⟩
      exact ⟨e, h1, by simpa using (by simpa using h2 : pl x = pl e).symm⟩
  rw [h1]
  unfold goes gup
  rw [← any_or]
  congr 1
  funext e
  rw [und_par9 p1 p2, show decide (pl e = par9 (pl x)) = decide (par9 (pl x) = pl e) from by rw [decide_eq_decide]; exact eq_comm]
theorem par9_isP {p : List UInt8} (h : isP p) (h1 : p ≠ [47]) : isP (par9 p) ∧ (par9 p).length < p.length := by
  obtain ⟨ms, x, a1, _, _, _, a5⟩ := par9_parts h h1
  refine ⟨by rw [a5]; exact isP_pth a1, ?_⟩
  have h2 := und_par9 (q := par9 p) h h1
  rw [decide_eq_true rfl, Bool.true_or] at h2
  exact (und_longer h2).2
end Go.Proofs.Ytkannambildnoaa

namespace Go.Proofs.Ytkannambildnoaa
open Go.RowKit Go.Maps Go.WideMaps

/-- An element of any type, taken as it is. -/
def anyElemS (v : Value) : Option (DataW Value × List MemPlace) := some (.held v, [])
/-- Block b is a map of at most n entries; at each key stands what f says. -/
def MapS (P : Program) (k : TypeId) (w : World) (b n : Nat) (f : List UInt8 → Option Value) : Prop :=
  ∃ D : DataW Value, w.ownsMap P k anyElemS b n D ∧ ∀ i : ByteArray, i.size ≤ maxLen → ∀ zd, D.atKey (.string i.data.toList) zd = (match f i.data.toList with | some v => .held v | none => zd)

variable {P : Program} {t k e : TypeId} {w : World} {b n : Nat} {f : List UInt8 → Option Value}
theorem mapS_made (P : Program) (k : TypeId) (w : World) : MapS P k (w.alloc (.map #[] 0)) w.heap.size 0 fun _ => none :=
  ⟨_, World.ownsMap_made w P k anyElemS, fun _ _ _ => rfl⟩
theorem MapS.lt (h : MapS P k w b n f) : b < w.heap.size := h.elim fun _ h => h.1.lt
theorem MapS.mono (h : MapS P k w b n f) {n' : Nat} (hn : n ≤ n') : MapS P k w b n' f := h.elim fun D h => ⟨D, h.1.mono hn, h.2⟩
theorem MapS.of_block {w' : World} (h : MapS P k w b n f) (hb : w'.heap[b]? = w.heap[b]?) : MapS P k w' b n f := by
  obtain ⟨D, ⟨es, clock, h1, h2⟩, h3⟩ := h
  exact ⟨D, ⟨es, clock, hb.trans h1, h2⟩, h3⟩
theorem MapS.below {w' : World} (h : MapS P k w b n f) (hb : Below w.heap.size w w') : MapS P k w' b n f := h.of_block (hb.block b h.lt)
theorem MapS.kept {w' : World} {row : Option Nat} (h : MapS P k w b n f) (hg : w.grownBy w' row) (hne : some b ≠ row) : MapS P k w' b n f := h.elim fun D h => ⟨D, h.1.kept hg hne, h.2⟩
theorem MapS.look (h : MapS P k w b n f) (hk : P.underlying k = some .string) (ht : P.underlying t = some (.map k e)) {z : Value} (hz : (zeroValue e).run P w = .ok z w) {i : ByteArray} (hi : i.size ≤ maxLen) :
    (Instr.lookup t (.map (some b)) (.string i) false).run P w = .ok ((f i.data.toList).getD z) w ∧ (Instr.lookup t (.map (some b)) (.string i) true).run P w = .ok (.tuple #[(f i.data.toList).getD z, .bool (f i.data.toList).isSome]) w := by
  obtain ⟨D, ⟨es, clock, hb, F, _, rfl⟩, hat⟩ := h
  have ha := hat i hi
  have two : ∀ c, (Instr.lookup t (.map (some b)) (.string i) c).run P w = .ok (if c then .tuple #[(f i.data.toList).getD z, .bool (f i.data.toList).isSome] else (f i.data.toList).getD z) w := fun c => by
    rcases Maps.fit_look c (string_keyed hk) ht hz hb F (keyOf_string_mk hk hi) with ⟨hrun, _, hn⟩ | ⟨e0, y, _, _, hrun, hR, hy, _⟩
    · have hf : f i.data.toList = none := by
        cases hf : f i.data.toList with
        | none => rfl
        | some v =>
          have h1 := ha .nil
          rw [hf, hn .nil] at h1
          cases h1
      rw [hrun, hf]
      rfl
    · have hf : f i.data.toList = some e0.val := by
        have h0 : y = (.held e0.val, []) := (Option.some.inj hR).symm
        have h1 := ha .nil
        rw [hy .nil, h0] at h1
        cases hf : f i.data.toList with
        | none => rw [hf] at h1; cases h1
        | some v => rw [hf] at h1; injection h1 with h1; rw [h1]
      rw [hrun, hf]
      rfl
  exact ⟨two false, two true⟩
theorem MapS.put (h : MapS P k w b n f) (hk : P.underlying k = some .string) (ht : P.underlying t = some (.map k e)) (hn : n < maxLen) {i : ByteArray} (hi : i.size ≤ maxLen) (v : Value) :
    ∃ w', (Instr.mapUpdate t (.map (some b)) (.string i) v).run P w = .ok () w' ∧ MapS P k w' b (n + 1) (fun x => if x = i.data.toList then some v else f x) ∧ w.grownBy w' (some b) := by
  obtain ⟨D, ho, hat⟩ := h
  obtain ⟨w', h1, h2, h3⟩ := ho.update (string_keyed hk) ht hn (keyOf_string_mk hk hi) (val := v) (d := .held v) (ps := []) rfl
  refine ⟨w', h1, ⟨_, h2, fun x hx zd => ?_⟩, h3⟩
  obtain ⟨es, clock, _, _, _, rfl⟩ := ho
  by_cases e : x.data.toList = i.data.toList
  · rw [e]
    rw [atKey_put_same ⟨_, rfl⟩ (show WideAt.IsKeyLit (.string i.data.toList) from trivial)]
    simp
  · rw [atKey_put_other (by simpa using e), hat x hx zd]
    simp [e]
end Go.Proofs.Ytkannambildnoaa

namespace Go.Proofs.Ytkannambildnoaa
open Go.RowKit Go.Maps

/-- The map that a closure of gone's holds. -/
structure GoneAt (w : World) (B P : Nat) (l : List Ent) : Prop where
  low : B ≤ P ∧ P < w.heap.size
  cell : ∃ m n, w.cell? ⟨P, 0, none⟩ = some (.map (some m)) ∧ MapS Try.prog 9 w m n (kd l)
theorem GoneAt.below {w w' : World} {B P : Nat} {l : List Ent} (h : GoneAt w B P l) (hb : Below w.heap.size w w') : GoneAt w' B P l := by
  obtain ⟨h1, m, n, h2, h3⟩ := h
  exact ⟨⟨h1.1, Nat.lt_of_lt_of_le h1.2 hb.size⟩, m, n, (hb.cell (p := ⟨P, 0, none⟩) h1.2).trans h2, h3.below hb⟩
theorem take_sn {α : Type} (l : List α) (k : Nat) (h : k < l.length) : l.take (k + 1) = l.take k ++ [l[k]] := by rw [List.take_add_one, List.getElem?_eq_getElem h]; rfl
set_option maxRecDepth 10000 in
set_option maxHeartbeats 2000000 in
theorem gone10 (l : List Ent) (a : Option Addr) (cap : Nat) (w : World) (h : Ents w a cap l) (hs : Sm l) :
    Calls Try.prog 33 #[.slice a l.length cap] w fun e w' => ∃ P, e = .returned (.func (.func 44) #[] #[.pointer (some ⟨P, 0, none⟩)]) ∧ GoneAt w' w.heap.size P l ∧ Below w.heap.size w w' := by
  have hmm := @run_makeMap Try.prog
  obtain ⟨m, hm⟩ : ∃ m, w.heap.size = m := ⟨_, rfl⟩
  obtain ⟨V, hV⟩ : ∃ V, (w.alloc (.map #[] 0)).alloc (.cells #[.map (some m)] 66) = V := ⟨_, rfl⟩
  have hb0 : Below w.heap.size w (w.alloc (.map #[] 0)) := (Below.refl _ _).alloc (Nat.le_refl _) _
  have hb1 : Below (w.alloc (.map #[] 0)).heap.size (w.alloc (.map #[] 0)) V := by rw [← hV]; exact (Below.refl _ _).alloc (Nat.le_refl _) _
  have HBV := Lib.hid (hb0.trans (hb1.mono hb0.size))
  have HMV := Lib.hid ((mapS_made Try.prog 9 w).below hb1)
  have HCP := Lib.hid (show V.cell? ⟨m + 1, 0, none⟩ = some (.map (some m)) by rw [← hV, ← hm]; simp)
  have HLT := Lib.hid (show w.heap.size = m ∧ m + 1 < V.heap.size by rw [← hV]; simp; omega)
  have HE := Lib.hid h
  have HS := Lib.hid hs
  have HCAP := Lib.hid h.1
  rw [hm] at HMV HBV ⊢
  clear h hs hb0 hb1
  go_enter Try.func33, Try.ntmps33
  go_wp2
  go_loopg [9] l.length (fun g i wx => ∃ k : Nat, i = .int .i64 (k : Int) ∧ k + g = l.length ∧ Hid (wx.cell? ⟨m + 1, 0, none⟩ = some (.map (some m)) ∧ V.heap.size ≤ wx.heap.size) ∧ Hid (MapS Try.prog 9 wx m k (kd (l.take k))) ∧ Hid (Below m w wx))
  case atStart => exact ⟨0, rfl, by omega, ⟨HCP.out, Nat.le_refl _⟩, HMV.out, HBV.out⟩
  case round =>
    obtain ⟨k, rfl, hk, HC, HM, HB⟩ := hrel
    have hw : IntKind.i64.wrap ((k : Int) + 1) = (k : Int) + 1 := IntWalk.i64_in _ (by have := HS.out.1; omega)
    by_cases hlt : k < l.length
    · have hlt' : (k : Int) < (l.length : Int) := by omega
      obtain ⟨b, off, rfl, hb, hc⟩ := HE.out.at (show Below w.heap.size w wr by rw [HLT.out.1]; exact HB.out) hlt
      have HN := Lib.hid (show kd (l.take (k + 1)) = fun z => if z = pl l[k] then some (.int .i64 l[k].2.1) else kd (l.take k) z by rw [take_sn l k hlt, kd_snoc])
      have HZ := Lib.hid (HS.out.2 _ (List.getElem_mem hlt))
      obtain ⟨x, hx⟩ : ∃ x, l[k] = x := ⟨_, rfl⟩
      rw [hx] at hc HN HZ
      have c0 := hc.c0
      have c1 := hc.c1
      have c2 := hc.c2
      obtain ⟨W, hW⟩ : ∃ W, wr.alloc (.cells #[.string x.1, .int .i64 x.2.1, .string x.2.2] 34) = W := ⟨_, rfl⟩
      obtain ⟨M, hM⟩ : ∃ M, wr.heap.size = M := ⟨_, rfl⟩
      have hbW : Below wr.heap.size wr W := by rw [← hW]; exact (Below.refl _ _).alloc (Nat.le_refl _) _
      have hq : EnAt W M x.1 x.2.1 x.2.2 := by rw [← hW, ← hM]; exact enAt_new _ _ _ _
      have q0 := hq.c0
      have q1 := hq.c1
      have hcW : W.cell? ⟨m + 1, 0, none⟩ = some (.map (some m)) := (hbW.cell (p := ⟨m + 1, 0, none⟩) (show m + 1 < wr.heap.size by have := HC.out.2; have := HLT.out; omega)).trans HC.out.1
      obtain ⟨w7, hput, hm7, hg7⟩ := (HM.out.below hbW).put (t := 66) (e := 3) Try.underlying9 Try.underlying66 (by have := HS.out.1; unfold maxLen; omega) (i := x.1) (by have := HZ.out; unfold maxLen; omega) (.int .i64 x.2.1)
      have HM7 := Lib.hid hm7
      have HBW := Lib.hid ((HB.out.trans (hbW.mono (by have := HB.out.size; have := HLT.out; omega))).grown hg7 (by have := HB.out.size; have := hbW.size; have := HLT.out; omega) fun j hj => by cases hj; exact Nat.le_refl _)
      have HC7 := Lib.hid (show w7.cell? ⟨m + 1, 0, none⟩ = some (.map (some m)) ∧ V.heap.size ≤ w7.heap.size from ⟨by
        rw [← hcW]
        exact World.cell?_of_block (hg7.block (m + 1) (by have := hbW.size; have := HC.out.2; have := HLT.out; omega) (by intro e; have := Option.some.inj e; omega)), by have := hg7.size; have := hbW.size; have := HC.out.2; omega⟩)
      clear hc hx hb hbW hq hm7 hg7
      go_wp2
      go_roundg (gk - 1)
      case measure => omega
      case rel => exact ⟨k + 1, by simp, by omega, HC7.out, by rw [HN.out]; exact HM7.out, HBW.out⟩
    · have hlt' : ¬ (k : Int) < (l.length : Int) := by omega
      have HV := Lib.hid (show l.take k = l from List.take_of_length_le (by omega))
      go_wp2
      go_ret
      exact ⟨m + 1, rfl, ⟨⟨by have := HLT.out; omega, by have := HC.out.2; have := HLT.out; omega⟩, m, k, HC.out.1, by rw [← HV.out]; exact HM.out⟩, HB.out⟩
end Go.Proofs.Ytkannambildnoaa

namespace Go.Proofs.Ytkannambildnoaa
open Go.RowKit Go.Maps

theorem at10 (o p : ByteArray) (u : TypeId) (y : Value) (w : World) : Calls Try.prog 39 #[.string o, .string p, .iface u y] w
    fun e w' => e = .returned (.iface 74 (.pointer (some ⟨w.heap.size, 0, none⟩))) ∧ Below w.heap.size w w' := by
  go_enter Try.func39, Try.ntmps39
  go_wp2
  go_ret
  exact ⟨rfl, (Below.refl _ _).alloc (Nat.le_refl _) _⟩
set_option maxHeartbeats 2000000 in
/-- Parent of the root. -/
theorem parRoot10 (w : World) : Calls Try.prog 26 #[.string ⟨#[47]⟩] w fun e w' => ∃ u y, e = .returned (.tuple #[.string ⟨#[]⟩, .string ⟨#[]⟩, .iface u y]) ∧ Below w.heap.size w w' := by
  go_enter Try.func26, Try.ntmps26
  go_wp2_with fail
  refine (deep_any ⟨#[47]⟩ (by decide) _).mono ?_
  rintro e w1 ⟨rfl, hb⟩
  rw [show dp (⟨#[47]⟩ : ByteArray).data.toList = 0 by decide]
  have HB := Lib.hid hb
  clear hb
  go_wp2_with fail
  refine (at10 _ _ _ _ w1).mono ?_
  rintro e w2 ⟨rfl, hb⟩
  have HB2 := Lib.hid (HB.out.trans (hb.mono HB.out.size))
  clear hb
  go_wp2
  go_ret3
  exact ⟨_, _, rfl, HB2.out⟩
/-- Parent of a path: its directory; of the root an error. -/
theorem par10 (p : ByteArray) (hP : isP p.data.toList) (w : World) : Calls Try.prog 26 #[.string p] w fun e w' => ∃ d n er, e = .returned (.tuple #[.string d, .string n, er]) ∧ ((p.data.toList = [47] ∧ ∃ u y, er = .iface u y) ∨ (p.data.toList ≠ [47] ∧ er = .nilIface ∧ d.data.toList = par9 p.data.toList)) ∧ Below w.heap.size w w' := by
  by_cases h : p.data.toList = [47]
  · obtain rfl : p = ⟨#[47]⟩ := ba_ext h
    refine (parRoot10 w).mono ?_
    rintro e w' ⟨u, y, rfl, hb⟩
    exact ⟨_, _, _, rfl, .inl ⟨rfl, u, y, rfl⟩, hb⟩
  · obtain ⟨ms, x, _, a2, _, a4, a5⟩ := par9_parts hP h
    refine (parent_good p ms x hP a2 a4 h w).mono ?_
    rintro e w' ⟨d, n, rfl, h1, _, hb⟩
    exact ⟨d, n, _, rfl, .inr ⟨h, rfl, by rw [h1, a5]⟩, hb⟩
set_option maxRecDepth 10000 in
set_option maxHeartbeats 2000000 in
theorem gclo10 (l : List Ent) (B P : Nat) (x : Ent) (w : World) (hg : GoneAt w B P l) (hA : Asc l) (hr : ∀ e ∈ l, rE e = true) (hx : rE x = true) :
    Calls Try.prog 44 (#[enV x] ++ #[.pointer (some ⟨P, 0, none⟩)]) w fun e w' => e = .returned (.bool (goes l x)) ∧ Below w.heap.size w w' := by
  obtain ⟨p1, p2⟩ := rE_isP hx
  have h54 := isP_len p1
  rw [← Lib.size_eq] at h54
  have HPP := Lib.hid (par9_isP p1 p2)
  have HP1 := Lib.hid p1
  have HP2 := Lib.hid p2
  have HA := Lib.hid hA
  have HR := Lib.hid hr
  obtain ⟨W, hW⟩ : ∃ W, w.alloc (.cells #[.string x.1, .int .i64 x.2.1, .string x.2.2] 34) = W := ⟨_, rfl⟩
  obtain ⟨N, hN⟩ : ∃ N, w.heap.size = N := ⟨_, rfl⟩
  have hb0 : Below w.heap.size w W := by rw [← hW]; exact (Below.refl _ _).alloc (Nat.le_refl _) _
  have hq : EnAt W N x.1 x.2.1 x.2.2 := by rw [← hW, ← hN]; exact enAt_new _ _ _ _
  have q0 := hq.c0
  have HB0 := Lib.hid hb0
  have HQ := Lib.hid hq
  have HG := Lib.hid (hg.below hb0)
  obtain ⟨m, n, hc, hm⟩ := HG.out.cell
  have hz : ∀ W, (zeroValue 3).run Try.prog W = .ok (.int .i64 0) W := by intro W; kernel_rfl
  have HLK := Lib.hid (fun (W' : World) (hb : Below W.heap.size W W') (s : ByteArray) (hs : s.size ≤ 100000) => (MapS.look (hm.below hb) Try.underlying9 (t := 66) (e := 3) Try.underlying66 (hz W') (i := s) (by unfold maxLen; omega)).2)
  have HCE := Lib.hid (fun (W' : World) (hb : Below W.heap.size W W') => (hb.cell (p := ⟨P, 0, none⟩) HG.out.low.2).trans hc)
  have hcP := HCE.out W (Below.refl _ _)
  have hlk := HLK.out W (Below.refl _ _) x.1 (by omega)
  rw [kd_fnd hA] at hlk
  obtain ⟨kv, hkv⟩ : ∃ kv, ((fnd l x.1.data.toList).map fun e => Value.int .i64 e.2.1).getD (.int .i64 0) = kv := ⟨_, rfl⟩
  obtain ⟨g0, hg0⟩ : ∃ g0, ((fnd l x.1.data.toList).map fun e => Value.int .i64 e.2.1).isSome = g0 := ⟨_, rfl⟩
  rw [hkv, hg0] at hlk
  have HGO := Lib.hid (show goes l x = (g0 || gup l (par9 (pl x))) by rw [goes_gup hx, ← hg0, Option.isSome_map])
  have HGU := Lib.hid (fun (p : List UInt8) (hp : isP p) (h1 : p ≠ [47]) => gup_step (l := l) hA hp h1)
  have HGR := Lib.hid (gup_root hr)
  have HGA := Lib.hid (fun p => kd_fnd hA p)
  obtain ⟨R, hR⟩ : ∃ R, goes l x = R := ⟨_, rfl⟩
  rw [hR] at HGO ⊢
  clear hg hA hr hx p1 p2 hb0 hq hm hc h54 hkv hg0 hR
  go_enter Try.func44, Try.ntmps44
  go_wp2_with fail
  refine (par10 x.1 HP1.out _).mono ?_
  rintro e w1 ⟨d, nm1, er, rfl, ho, hb⟩
  obtain ⟨h9, _⟩ | ⟨_, rfl, hd⟩ := ho
  · exact absurd h9 HP2.out
  have HB1 := Lib.hid (HB0.out.trans (hb.mono HB0.out.size))
  have HW1 := Lib.hid hb
  have HD := Lib.hid hd
  clear hb hd q0 hcP hlk
  go_wp2
  go_loopg [5, 6, 8] 55 (fun g s5 s6 s8 wr => ∃ (gv : Bool) (p : ByteArray), s5 = .bool gv ∧ s6 = .string p ∧ Hid (Below w.heap.size w wr) ∧ Hid (Below W.heap.size W wr) ∧ ((s8 = .nilIface ∧ p.size + 1 ≤ g ∧ p.size ≤ 54 ∧ Hid (isP p.data.toList ∧ R = (gv || gup l p.data.toList))) ∨ (∃ u y, s8 = .iface u y ∧ Hid (R = gv))))
  case atStart =>
    have h1 := HPP.out
    rw [← HD.out] at h1
    have h2 := isP_len h1.1
    rw [← Lib.size_eq] at h2
    exact ⟨g0, d, rfl, rfl, HB1.out, HW1.out, .inl ⟨rfl, by omega, by omega, h1.1, by rw [HGO.out, HD.out]⟩⟩
  case round =>
    obtain ⟨gv, p, rfl, rfl, HB, HW, ⟨rfl, hpg, hp54, HI⟩ | ⟨u, y, rfl, HI⟩⟩ := hrel
    · cases gv with
      | true =>
        go_wp2
        go_ret
        exact ⟨by rw [HI.out.2]; rfl, HB.out⟩
      | false =>
        have hcP := HCE.out wr HW.out
        have hlk := HLK.out wr HW.out p (by omega)
        rw [HGA.out p.data.toList] at hlk
        have HIR := Lib.hid (show R = gup l p.data.toList by rw [HI.out.2, Bool.false_or])
        cases hf : fnd l p.data.toList with
        | none =>
          rw [hf] at hlk
          have HT := Lib.hid (show gat l p.data.toList = false by unfold gat; rw [hf])
          simp only [Option.map_none, Option.getD_none, Option.isSome_none] at hlk
          clear hf
          go_wp2_with fail
          refine (par10 p HI.out.1 _).mono ?_
          rintro r w2 ⟨d2, nm2, er, rfl, ho, hb⟩
          have HB2 := Lib.hid (HB.out.trans (hb.mono HB.out.size))
          have HW2 := Lib.hid (HW.out.trans (hb.mono HW.out.size))
          clear hb hcP hlk
          rcases ho with ⟨h9, u, y, rfl⟩ | ⟨h9, rfl, hd2⟩
          · have HV := Lib.hid (show R = false by
              have h1 := HGR.out
              rw [← h9] at h1
              rw [HIR.out, h1.1, ← HT.out, h1.2])
            clear h9
            go_wp2
            go_roundg 0
            case measure => omega
            case rel => exact ⟨false, d2, by simp, rfl, HB2.out, HW2.out, .inr ⟨u, y, rfl, HV.out⟩⟩
          · have HV := Lib.hid (show isP d2.data.toList ∧ R = (false || gup l d2.data.toList) by
              rw [hd2]
              exact ⟨(par9_isP HI.out.1 h9).1, by rw [HIR.out, HGU.out _ HI.out.1 h9, HT.out]⟩)
            have HS := Lib.hid (show d2.size < p.size by
              rw [Lib.size_eq, Lib.size_eq, hd2]
              exact (par9_isP HI.out.1 h9).2)
            clear h9 hd2
            go_wp2
            go_roundg (gk - 1)
            case measure => have := HS.out; omega
            case rel => exact ⟨false, d2, by simp, rfl, HB2.out, HW2.out, .inl ⟨rfl, by have := HS.out; omega, by have := HS.out; omega, HV.out⟩⟩
        | some e =>
          rw [hf] at hlk
          have HT := Lib.hid (show gat l p.data.toList = (e.2.1 != 2) by unfold gat; rw [hf])
          simp only [Option.map_some, Option.getD_some, Option.isSome_some] at hlk
          clear hf
          go_wp2_with fail
          refine (par10 p HI.out.1 _).mono ?_
          rintro r w2 ⟨d2, nm2, er, rfl, ho, hb⟩
          have HB2 := Lib.hid (HB.out.trans (hb.mono HB.out.size))
          have HW2 := Lib.hid (HW.out.trans (hb.mono HW.out.size))
          clear hb hcP hlk
          rcases ho with ⟨h9, u, y, rfl⟩ | ⟨h9, rfl, hd2⟩
          · have HV := Lib.hid (show R = (e.2.1 != 2) by
              have h1 := HGR.out
              rw [← h9] at h1
              rw [HIR.out, h1.1, ← HT.out, h1.2])
            clear h9
            go_wp2
            go_roundg 0
            case measure => omega
            case rel => exact ⟨(e.2.1 != 2), d2, by simp, rfl, HB2.out, HW2.out, .inr ⟨u, y, rfl, HV.out⟩⟩
          · have HV := Lib.hid (show isP d2.data.toList ∧ R = ((e.2.1 != 2) || gup l d2.data.toList) by
              rw [hd2]
              exact ⟨(par9_isP HI.out.1 h9).1, by rw [HIR.out, HGU.out _ HI.out.1 h9, HT.out]⟩)
            have HS := Lib.hid (show d2.size < p.size by
              rw [Lib.size_eq, Lib.size_eq, hd2]
              exact (par9_isP HI.out.1 h9).2)
            clear h9 hd2
            go_wp2
            go_roundg (gk - 1)
            case measure => have := HS.out; omega
            case rel => exact ⟨(e.2.1 != 2), d2, by simp, rfl, HB2.out, HW2.out, .inl ⟨rfl, by have := HS.out; omega, by have := HS.out; omega, HV.out⟩⟩
    · go_wp2
      go_ret
      exact ⟨by rw [HI.out]; rfl, HB.out⟩
end Go.Proofs.Ytkannambildnoaa
