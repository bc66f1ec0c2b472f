/-
  Contracts of slices.Grow of nil and of slices.Concat, of lists of entries. Conditions: the lists lie in memory, have at most 2000 entries in all.
-/
import Derived.Test.YtgpipljhpkhffaaDoorStkM
import Derived.Test.YtgpipljhpkhffaaDoorS9Size
import Derived.Lib.AppendZerosOnto
import Derived.Lib.Walk
import Derived.Deep.LoopGhost
import Derived.Lib.Hide
import Derived.IntWalk
namespace Go.Proofs.YtgpipljhpkhffaaDoor
open Go.RowKit

/-- Entries at the end of a slice that a call made itself. -/
theorem wl_catE {w : World} {ops : Array Oper} {rest : List Oper} {o : Oper} {a : Act} {Q : Exit → Act → World → Prop} (hgd : o.guard = none) (s x : Operand)
    (ho : o.op = .call { callee := .builtin .append, args := #[s, x], argTypes := #[22, 22] }) (B : Nat) (v : Value) (l m : List Ent) (hs : a.eval s = v) (hown : OwnE w B v l) (hB : B ≤ w.heap.size)
    (aS : Option Addr) (c : Nat) (hx : a.eval x = .slice aS m.length c) (hM : Ents w aS c m) (hl : l.length + m.length ≤ 10000)
    (h : ∀ v' w', OwnE w' B v' (l ++ m) → w.grownBy w' v.ownBlock → wpList Tryd.prog ops Q rest (a.put o.dst v') w') : wpList Tryd.prog ops Q (o :: rest) a w := by
  obtain ⟨ie, hie, hz, hsz, hby⟩ := info_parts infoEn
  have hC : ∀ x ∈ m, (enc x).length = 3 := fun _ _ => rfl
  obtain ⟨h1, h2⟩ := RowN.src hM (by decide) hC
  refine wl_append_any hgd s x 22 ho B 41 ie _ 3 40 Tryd.underlying22 hie hz hsz hby rfl (by decide) v l.length _ hs hown aS m.length c (m.flatMap enc) hx (flat_len m hC) h1 h2 ?_ (by unfold maxLen; omega) (by omega) hB ?_
  · intro u hu
    obtain ⟨y, _, hu⟩ := List.mem_flatMap.1 hu
    rcases List.mem_cons.1 hu with rfl | hu
    · rfl
    rcases List.mem_cons.1 hu with rfl | hu
    · rfl
    rcases List.mem_cons.1 hu with rfl | hu
    · rfl
    cases hu
  · intro v' w' h1 h2
    refine h v' w' ?_ h2
    unfold OwnE
    rw [List.length_append, List.flatMap_append]
    exact h1
set_option maxRecDepth 100000 in
set_option maxHeartbeats 2000000 in
theorem grow9 (n : Nat) (hn : n ≤ 10000) (w : World) : Calls Tryd.prog 70 #[.slice none 0 0, .int .i64 (n : Int)] w fun e w' => ∃ v, e = .returned v ∧ OwnE w' w.heap.size v [] ∧ Below w.heap.size w w' := by
  by_cases h0 : n = 0
  · subst h0
    go_enter Tryd.func70, Tryd.ntmps70
    go_wp2
    go_ret
    exact ⟨_, rfl, ownE_nil _ _, Below.refl _ _⟩
  · obtain ⟨ie, hie, hz, hsz, hby⟩ := info_parts infoEn
    have h1 : ¬ ((n : Int) < 0) := by omega
    have h4 : (0 : Int) < (n : Int) := by omega
    have hrz : ∀ ty, (Builtin.append_ #[22, 3] ty #[.slice none 0 0, .int .i64 (n : Int)]).run Tryd.prog w =
        .ok (.slice (some ⟨w.heap.size, 0, none⟩) n (grownCap w n 0 41)) (w.drew.alloc (.cells (Builtin.zeroCells (entV ⟨#[]⟩ 0 ⟨#[]⟩).cells n ++ Builtin.zeroCells (entV ⟨#[]⟩ 0 ⟨#[]⟩).cells (grownCap w n 0 41 - n)) 41)) := fun ty => by
      have h := Lib.run_append_grow_zeros w 22 3 ty 41 ie _ .i64 .i64 Tryd.underlying22 Tryd.underlying3 hie hz none 0 0 [] (by rw [hsz]; exact run_firstCells_none w.drew 3 0 0 0) n (by omega) (by omega) (by omega) (by omega) (by rw [hby]; omega) (by rw [hby]; exact growslice_fits (by omega) (by omega))
      rw [Nat.zero_add] at h
      simpa using h
    have hGn : n ≤ grownCap w n 0 41 := grownCap_ge w _ _ _
    have hGm : grownCap w n 0 41 ≤ maxLen := grownCap_le_maxLen w n 0 41 (by unfold maxLen; omega)
    obtain ⟨G, hG⟩ : ∃ G, grownCap w n 0 41 = G := ⟨_, rfl⟩
    rw [hG] at hrz hGn hGm
    have HO := Lib.hid (show OwnE (w.drew.alloc (.cells (Builtin.zeroCells (entV ⟨#[]⟩ 0 ⟨#[]⟩).cells n ++ Builtin.zeroCells (entV ⟨#[]⟩ 0 ⟨#[]⟩).cells (G - n)) 41)) w.heap.size (.slice (some ⟨w.heap.size, 0, none⟩) 0 G) [] by
      refine ⟨rfl, .inr ⟨w.heap.size, G, _, rfl, Nat.le_refl _, heap_alloc_new _ _, Nat.zero_le _, hGm, ?_, by simp⟩⟩
      rw [Array.size_append, size_zeroCells, size_zeroCells]
      show n * 3 + (G - n) * 3 = G * 3
      omega)
    have HB := Lib.hid (show Below w.heap.size w (w.drew.alloc (.cells (Builtin.zeroCells (entV ⟨#[]⟩ 0 ⟨#[]⟩).cells n ++ Builtin.zeroCells (entV ⟨#[]⟩ 0 ⟨#[]⟩).cells (G - n)) 41)) from ((Below.refl w.heap.size w).drew).alloc (Nat.le_refl _) _)
    have hG0 : (0 : Int) ≤ (G : Int) := by omega
    have HR := Lib.hid hrz
    clear hie hz hsz hby h0 hG hrz hGm
    go_enter Tryd.func70, Tryd.ntmps70
    go_wp2_with (at_builtin; refine Lib.wpList_append_run _ rfl _ _ _ _ rfl _ _ rfl rfl _ _ (HR.out _) ?_)
    go_ret
    exact ⟨_, rfl, HO.out, HB.out⟩
theorem flatten_take {S : List (List Ent)} {k : Nat} (h : k < S.length) : (S.take (k + 1)).flatten = (S.take k).flatten ++ S[k] := by
  rw [take_get S k h, List.flatten_append]
  simp
theorem flatten_take_le (S : List (List Ent)) (k : Nat) : (S.take k).flatten.length ≤ S.flatten.length := by
  conv => rhs; rw [← List.take_append_drop k S, List.flatten_append, List.length_append]
  omega
set_option maxRecDepth 10000 in
set_option maxHeartbeats 4000000 in
theorem concat9 (S : List (List Ent)) (a : Option Addr) (cap : Nat) (w : World) (h : Stk w a cap S) (hS : S.length ≤ 100) (hl : S.flatten.length ≤ 2000) : Calls Tryd.prog 51 #[.slice a S.length cap] w fun e w' => ∃ a' cap', e = .returned (.slice a' S.flatten.length cap') ∧ Ents w' a' cap' S.flatten ∧ Below w.heap.size w w' := by
  have HE := Lib.hid h
  have HS := Lib.hid hS
  have HL := Lib.hid hl
  obtain ⟨F, hF⟩ : ∃ F, S.flatten = F := ⟨_, rfl⟩
  rw [hF]
  have HF := Lib.hid hF
  clear h hS hl hF
  go_enter Tryd.func51, Tryd.ntmps51
  go_wp2
  go_loopg [3, 11] S.length (fun g z i wx => ∃ (k n : Nat), z = .int .i64 (n : Int) ∧ i = .int .i64 (k : Int) ∧ k + g = S.length ∧ Hid (n = (S.take k).flatten.length) ∧ w = wx)
  case atStart => exact ⟨0, 0, rfl, rfl, by omega, rfl, rfl⟩
  case round =>
    obtain ⟨k, n, rfl, rfl, hk, HI, rfl⟩ := hrel
    have hw : IntKind.i64.wrap ((k : Int) + 1) = (k : Int) + 1 := IntWalk.i64_in _ (by have := HS.out; omega)
    by_cases hlt : k < S.length
    · have hlt' : (k : Int) < (S.length : Int) := by omega
      obtain ⟨b, off, a', cap', rfl, hc, hE⟩ := Stk.at HE.out (Below.refl _ _) hlt
      have HT := Lib.hid (congrArg List.length (flatten_take hlt))
      have HLE := Lib.hid (flatten_take_le S (k + 1))
      obtain ⟨x, hx⟩ : ∃ x, S[k] = x := ⟨_, rfl⟩
      rw [hx] at hc HT
      have HN := Lib.hid (show n + x.length = (S.take (k + 1)).flatten.length by rw [HT.out, List.length_append, HI.out])
      have hw2 : IntKind.i64.wrap ((n : Int) + (x.length : Int)) = (n : Int) + (x.length : Int) := IntWalk.i64_in _ (by have := HN.out; have := HLE.out; have := HL.out; omega)
      have hneg : ¬ (n : Int) + (x.length : Int) < 0 := by omega
      clear hE hx
      go_wp2
      go_roundg (gk - 1)
      case measure => omega
      case rel => exact ⟨k + 1, n + x.length, by simp, by simp, by omega, HN.out, rfl⟩
    · have hlt' : ¬ (k : Int) < (S.length : Int) := by omega
      have HNL := Lib.hid (show n ≤ 10000 by have := HI.out; have := flatten_take_le S k; have := HL.out; omega)
      go_wp2_with fail
      refine (grow9 n HNL.out _).mono ?_
      rintro e w1 ⟨v1, rfl, ho1, hb1⟩
      have HO1 := Lib.hid ho1
      have HB1 := Lib.hid hb1
      clear ho1 hb1
      go_wp2
      go_loopg [6, 27] S.length (fun g v i wx => ∃ (j : Nat), i = .int .i64 (j : Int) ∧ j + g = S.length ∧ Hid (OwnE wx w.heap.size v (S.take j).flatten) ∧ Hid (Below w.heap.size w wx))
      case atStart => exact ⟨0, rfl, by omega, HO1.out, HB1.out⟩
      case round =>
        obtain ⟨j, rfl, hj, HO, HB⟩ := hrel
        have hw : IntKind.i64.wrap ((j : Int) + 1) = (j : Int) + 1 := IntWalk.i64_in _ (by have := HS.out; omega)
        by_cases hlt : j < S.length
        · have hlt' : (j : Int) < (S.length : Int) := by omega
          obtain ⟨b, off, a', cap', rfl, hc, hE⟩ := Stk.at HE.out HB.out hlt
          have HT := Lib.hid (flatten_take hlt)
          have HLE := Lib.hid (flatten_take_le S (j + 1))
          obtain ⟨x, hx⟩ : ∃ x, S[j] = x := ⟨_, rfl⟩
          rw [hx] at hc HT hE
          have HX := Lib.hid hE
          have HLN := Lib.hid (show (S.take j).flatten.length + x.length ≤ 10000 by
            have h1 := congrArg List.length HT.out
            rw [List.length_append] at h1
            have := HLE.out
            have := HL.out
            omega)
          clear hE hx
          go_wp2_with (at_builtin; refine Stopped.go ?_)
          unfold Stopped
          refine wl_catE (by rfl) _ _ (by rfl) w.heap.size u6 _ x (by rfl) HO.out HB.out.size a' cap' (by rfl) HX.out HLN.out ?_
          intro v4 w4 ho4 hg4
          have HB4 := Lib.hid (HB.out.grown hg4 HB.out.size (fun k hk => (ownE_blk HO.out k hk).1))
          have HO4 := Lib.hid ho4
          clear ho4 hg4
          go_wp2
          go_roundg (S.length - (j + 1))
          case measure => omega
          case rel => exact ⟨j + 1, by simp, by omega, by rw [HT.out]; exact HO4.out, HB4.out⟩
        · have hlt' : ¬ (j : Int) < (S.length : Int) := by omega
          have HO2 := Lib.hid (show OwnE wr w.heap.size u6 F by have := HO.out; rw [List.take_of_length_le (by omega), HF.out] at this; exact this)
          go_wp2
          go_ret
          obtain ⟨a', cap', rfl, h2⟩ := ents_of_own HO2.out
          exact ⟨a', cap', rfl, h2, HB.out⟩
end Go.Proofs.YtgpipljhpkhffaaDoor
