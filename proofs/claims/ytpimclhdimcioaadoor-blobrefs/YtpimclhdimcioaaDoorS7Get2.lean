/-
  The contract of package blob's Get of a place that lies on a disk that is up: the text there, if its sum is the one that is told; of a disk that is down. Conditions: as each says.
-/
import Derived.Test.YtpimclhdimcioaaDoorS7Get
namespace Go.Proofs.YtpimclhdimcioaaDoor
open Go.RowKit Go.Maps
open Extern.Stop (cell)

attribute [local go_sem ↓] old_ldrf old_ldi old_ldu ldw_pg stw_pg alw_pg
attribute [local go_sem] oldC_forall isPgV_ptr pgAtV_ptr thereV_ptr setV_ptr cellsV_agg isC1_ptr c1V_ptr
theorem owns_old7 {w w' : World} {B : Nat} {e : TypeId} {C : Nat} {v : Value} {n : Nat} {xs : List Value} (h : w.ownsRow B e C v n xs) (hb : Below w.heap.size w w') : w'.ownsRow B e C v n xs :=
  World.ownsRow.kept (row := none) h ⟨hb.os, hb.tape, hb.output, hb.size, fun k hk _ => hb.block k hk⟩ (by cases v.ownBlock <;> simp)
set_option maxRecDepth 10000 in
set_option maxHeartbeats 4000000 in
theorem get_run {w : World} {F : Nat → Prop} {b : Nat} {D : DskV} (h : IsDsk w F b D) (hdn : D.down = false) (k : Int) (n : Nat) (s : Int) (hr : rt k (n : Int) D.size = true) :
    Calls Tryd.prog 11 #[.pointer (some ⟨b, 0, none⟩), refV k (n : Int) s] w fun e w' => e = .returned (.tuple #[.string (if adl (gotL D k n) = s then bs (gotL D k n) else ⟨#[]⟩), errV (if adl (gotL D k n) = s then 0 else 12)]) ∧ Below w.heap.size w w' := by
  have hrt := rt_true hr
  have hpb := pgs_bd (n : Int)
  have hn : 1 ≤ n ∧ n ≤ 16384 := by
    have := hrt.1
    unfold pgs at this
    split at this <;> omega
  have hp := pgs_nat hn.1 hn.2
  obtain ⟨np, hnp⟩ : ∃ np, npg n = np := ⟨_, rfl⟩
  rw [hnp] at hp
  rw [hp] at hrt
  have hok := h.ok
  have hhi := hok.hi
  have HP := Lib.hid hp
  have HK := Lib.hid (show 0 ≤ k ∧ k + (np : Int) ≤ 2048 ∧ k + (np : Int) ≤ D.size by omega)
  have HN := Lib.hid (show 1 ≤ np ∧ np ≤ 256 ∧ n ≤ 64 * np ∧ 1 ≤ n ∧ n ≤ 16384 by
    have := npg_ge n
    rw [hp] at hpb
    omega)
  have HS : Hid (∀ w1, Below w.heap.size w w1 → SizeIs (.pointer (some ⟨b, 0, none⟩)) D.size w1) := fun w1 hb => sizeIs_dsk (h.below hb)
  have HR : Hid (∀ w0 w', OldC w0 w' → Calls Tryd.prog 13 #[refV k (n : Int) s, .int .i64 D.size] w' fun e w'' => e = .returned (.bool true) ∧ OldC w0 w'') := by
    rw [← hr]
    exact right_old _ _ _ _ (by omega)
  have HD := Lib.hid h
  have HW : Hid (∀ j : Nat, j < np → D.why (k + (j : Int)) = 0) := fun j hj => by
    unfold DskV.why
    rw [hdn, if_neg (by decide), if_neg (by have := HK.out; omega)]
  have HL : Hid (∀ i : Int, (D.seen i).length = 64) := fun i => seen_len hok i
  obtain ⟨f, hf⟩ : ∃ f : Nat → List UInt8, (fun i : Nat => D.seen (k + (i : Int))) = f := ⟨_, rfl⟩
  have HJL : Hid (∀ m, (joined f m).length = 64 * m) := joined_len f fun i => by rw [← hf]; exact seen_len hok _
  have HF : Hid (∀ j, f j = D.seen (k + (j : Int))) := fun j => by rw [← hf]
  obtain ⟨L, hL⟩ : ∃ L, gotL D k n = L := ⟨_, rfl⟩
  have HGL : Hid ((joined f np).take n = L) := by rw [← hL, ← hf, ← hnp]; rfl
  have HLL := Lib.hid (show L.length = n by rw [← hL]; exact gotL_len hok k n)
  rw [hL]
  obtain ⟨v0, hv0⟩ : ∃ v0 : ByteArray, (if adl L = s then bs L else ⟨#[]⟩) = v0 := ⟨_, rfl⟩
  obtain ⟨ev, hev⟩ : ∃ ev, errV (if adl L = s then 0 else 12) = ev := ⟨_, rfl⟩
  rw [hv0, hev]
  have HV0 := Lib.hid hv0
  have HEV0 := Lib.hid hev
  obtain ⟨iB, hiB, hz0, hz1, hz2⟩ := info_parts infoByte
  have KB := Lib.hid (And.intro hiB (And.intro hz0 (And.intro hz1 hz2)))
  clear hiB hz0 hz1 hz2 hp hr hnp hrt hok hhi hpb hn h hdn hf hL hv0 hev
  go_enter Tryd.func11, Tryd.ntmps11
  go_wp2_with fail
  obtain ⟨W, hW⟩ : ∃ W, w.alloc (.cells #[.int .i64 k, .int .i64 (n : Int), .int .u32 s] 32) = W := ⟨_, rfl⟩
  have hb : Below w.heap.size w W := by rw [← hW]; exact (Below.refl _ _).alloc (Nat.le_refl _) _
  have r1 : RfAt W w.heap.size k (n : Int) s := by rw [← hW]; exact rfAt_new _ _ _ _
  rw [hW]
  have HB := Lib.hid hb
  have HR1 := Lib.hid r1
  have HS1 := Lib.hid (HS.out W hb)
  have HDW := Lib.hid (HD.out.below hb)
  obtain ⟨i1, i2⟩ := r1.is
  clear hW hb HS r1
  refine wp_region_old (by kernel_rfl) (by kernel_rfl) ?_
  repeat (go_big_quiet_step ((first | (intro hw; with_reducible exact HS1.out _ hw) | (intro hw; with_reducible exact HR.out _ _ hw))))
  refine wpQuiet_nil ?_
  intro w9 hw9
  have HE := Lib.hid (show Below W.heap.size W w9 from hw9)
  have g1 := (HR1.out.below hw9).c1
  clear hw9 HS1 HR i1 i2
  go_wp2_with fail
  refine (pages_any _ _).mono ?_
  rintro e w2 ⟨rfl, rfl⟩
  rw [HP.out]
  clear g1
  go_wp2
  go_loopg [6, 20] np (fun g v i wx => ∃ (j : Nat), i = .int .i64 (j : Int) ∧ j + g = np ∧ Hid (Below W.heap.size W wx ∧ wx.ownsRow W.heap.size 5 1 v (64 * j) (cellsB (joined f j))))
  case atStart => exact ⟨0, rfl, by omega, HE.out, World.ownsRow_nil _ _ _ _⟩
  case round =>
    obtain ⟨j, rfl, hj, HI⟩ := hrel
    by_cases hlt : j < np
    · have hlt' : (j : Int) < (np : Int) := by omega
      have hw1 : IntKind.i64.wrap (k + (j : Int)) = k + (j : Int) := IntWalk.i64_in _ (by have := HK.out; omega)
      have hw3 : IntKind.i64.wrap ((j : Int) + 1) = (j : Int) + 1 := IntWalk.i64_in _ (by have := HN.out; omega)
      have g0 := (HR1.out.below HI.out.1).c0
      go_wp2_with fail
      refine (read_any (HDW.out.below HI.out.1) _).mono ?_
      rintro e w3 ⟨rfl, hb3⟩
      rw [HW.out j hlt, ← HF.out j]
      rw [show errV 0 = .nilIface from rfl]
      have hl : (f j).length = 64 := by rw [HF.out]; exact HL.out _
      have HB3 := Lib.hid (HI.out.1.trans (hb3.mono HI.out.1.size))
      have HO3 := Lib.hid (owns_old7 HI.out.2 hb3)
      have q1 := isPv_agg hl
      have q2 := there_zp w3 40
      have q3 := set_zp (w := w3) (N := w3.heap.size) rfl (t := 40) hl
      clear hb3 g0
      go_wp2_with (at_builtin; refine Stopped.go ?_)
      unfold Stopped
      refine wl_append_any (by rfl) _ _ 63 (by rfl) W.heap.size 5 iB (.int .u8 0) 1 1 Tryd.underlying63 KB.out.1 KB.out.2.1 KB.out.2.2.1 KB.out.2.2.2 rfl (by decide) u6 (64 * j) _ (by rfl) (HO3.out.alloc _) (some ⟨w3.heap.size, 0, none⟩) 64 64 (cellsB (f j)) (by rfl) ?l1 ?s1 (fun e => by cases e) (cellsB_one _) ?m1 ?b1 ?z1 ?_
      case l1 => rw [cellsB_len, hl]
      case s1 =>
        intro ad e i u hu
        cases e
        rw [Addr.add_lit, Nat.zero_add]
        have := range_cells w3 w3.heap.size rfl (cellsB (f j)) 40 i u hu
        rwa [Nat.zero_add] at this
      case m1 => have := HN.out; unfold maxLen; omega
      case b1 => have := HN.out; omega
      case z1 => have := HB3.out.size; simp; omega
      intro v4 w4 ho4 hg4
      have HB4 := Lib.hid ((HB3.out.alloc HB3.out.size (.cells (cellsB (f j)).toArray 40)).grown hg4 (by have := HB3.out.size; simp; omega) (own_blk HO3.out))
      have HO4 := Lib.hid (show w4.ownsRow W.heap.size 5 1 v4 (64 * (j + 1)) (cellsB (joined f (j + 1))) by
        rw [joined, cellsB_app, show 64 * (j + 1) = 64 * j + 64 by omega]
        exact ho4)
      clear ho4 hg4 HO3 HB3 q2 q3
      go_wp2
      go_roundg (gk - 1)
      case measure => omega
      case rel => exact ⟨j + 1, by simp, by omega, HB4.out, HO4.out⟩
    · have hlt' : ¬ (j : Int) < (np : Int) := by omega
      obtain rfl : j = np := by omega
      have g1 := (HR1.out.below HI.out.1).c1
      have g2 := (HR1.out.below HI.out.1).c2
      obtain ⟨g, cap, hv, hcap⟩ := owns_slice HI.out.2 (by have := HN.out; omega)
      subst hv
      have hcv := conv_part HI.out.2 n (by rw [HJL.out]; exact HN.out.2.2.1) (HJL.out _)
      rw [HGL.out] at hcv
      have hnc : (n : Int) ≤ (cap : Int) := by have := HN.out; omega
      have HSM : Hid (∀ w0 w', OldC w0 w' → Calls Tryd.prog 23 #[.string (bs L)] w' fun e w'' => e = .returned (.int .u32 (adl L)) ∧ OldC w0 w'') := fun w0 w' hw' => by
        have h3 := sum_any (bs L) w' (by rw [bs_size, HLL.out]; have := HN.out; unfold maxLen; omega)
        rw [bs_list] at h3
        refine h3.mono ?_
        rintro e w'' ⟨rfl, rfl⟩
        exact ⟨rfl, hw'⟩
      obtain ⟨x, hx⟩ : ∃ x, adl L = x := ⟨_, rfl⟩
      rw [hx] at HSM HV0 HEV0
      have HBW := Lib.hid (HB.out.trans (HI.out.1.mono HB.out.size))
      clear hx
      by_cases he : x = s
      · subst he
        rw [if_pos rfl] at HV0 HEV0
        go_wp2_with fail
        refine wp_region_old (by kernel_rfl) (by kernel_rfl) ?_
        repeat (go_big_quiet_step ((intro hw; with_reducible exact HSM.out _ _ hw)))
        refine wpQuiet_nil ?_
        intro w9 hw9
        have HE9 := Lib.hid (show Below w.heap.size w w9 from HBW.out.trans (Below.mono hw9 HBW.out.size))
        clear hw9 g1 g2 hcv
        go_wp2
        go_ret2
        exact ⟨by rw [← HV0.out, ← HEV0.out]; rfl, HE9.out⟩
      · have hn1 : (x != s) = true := by simp [he]
        rw [if_neg he] at HV0 HEV0
        have hn2 : (x == s) = false := by simp [he]
        clear he
        go_wp2_with fail
        refine wp_region_old (by kernel_rfl) (by kernel_rfl) ?_
        repeat (go_big_quiet_step ((intro hw; with_reducible exact HSM.out _ _ hw)))
        refine wpQuiet_nil ?_
        intro w9 hw9
        have HE9 := Lib.hid (show Below w.heap.size w w9 from HBW.out.trans (Below.mono hw9 HBW.out.size))
        clear hw9 g1 g2 hcv
        go_wp2
        go_ret2
        exact ⟨by rw [← HV0.out, ← HEV0.out]; rfl, HE9.out⟩
end Go.Proofs.YtpimclhdimcioaaDoor
