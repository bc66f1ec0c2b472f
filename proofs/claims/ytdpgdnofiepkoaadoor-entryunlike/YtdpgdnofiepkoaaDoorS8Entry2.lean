/-
  Contracts of package entry's Lay and Read: of an entry that is right, and of one that isn't; of any bytes, and of nil. Conditions: the texts' sizes fit.
-/
import Derived.Test.YtdpgdnofiepkoaaDoorS8Entry
import Derived.Test.YtdpgdnofiepkoaaDoorS4Bad3
namespace Go.Proofs.YtdpgdnofiepkoaaDoor
open Go.RowKit

attribute [local go_sem ↓] old_ldi old_lds
attribute [local go_sem] oldC_forall isC1_ptr isS1_ptr c1V_ptr
theorem layE_str (p : ByteArray) (k : Nat) (d : ByteArray) : numB k ++ strB p ++ strB d = layE p k d := by
  apply ba_ext
  rw [layE_list]
  simp only [ByteArray.data_append, Array.toList_append, numB_list, strB_list, List.append_assoc]
set_option maxRecDepth 10000 in
set_option maxHeartbeats 1000000 in
theorem lay8_bad (p : ByteArray) (k : Int) (d : ByteArray) (hz : p.size ≤ maxLen) (hr : rightE p k d = false) (w : World) : Calls Tryd.prog 11 #[entV p k d] w fun e w' => e = .returned (.tuple #[.string ⟨#[]⟩, .iface 43 (.int .i64 1)]) ∧ Below w.heap.size w w' := by
  have hb0 : Below w.heap.size w (w.alloc (.cells #[.string p, .int .i64 k, .string d] 23)) := (Below.refl _ _).alloc (Nat.le_refl _) _
  have HB0 := Lib.hid hb0
  have HC := Lib.hid (fun W => right8 p k d hz W)
  have HR := Lib.hid hr
  clear hb0 hz hr
  go_enter Tryd.func11, Tryd.ntmps11
  go_wp2_with fail
  refine (HC.out _).mono ?_
  rintro e w1 ⟨rfl, hb1⟩
  rw [HR.out]
  have HB1 := Lib.hid (HB0.out.trans (hb1.mono HB0.out.size))
  clear hb1
  go_wp2
  go_ret2
  exact ⟨rfl, HB1.out⟩
set_option maxRecDepth 10000 in
set_option maxHeartbeats 1000000 in
theorem lay8_good (p : ByteArray) (k : Nat) (d : ByteArray) (hr : rightE p (k : Int) d = true) (w : World) : Calls Tryd.prog 11 #[entV p (k : Int) d] w fun e w' => e = .returned (.tuple #[.string (layE p k d), .nilIface]) ∧ Below w.heap.size w w' := by
  obtain ⟨h1, h2, h3, h4, _⟩ := rightE_parts hr
  have hp54 := isP_len (isP_of_dp h1)
  rw [← Lib.size_eq] at hp54
  have hb0 : Below w.heap.size w (w.alloc (.cells #[.string p, .int .i64 (k : Int), .string d] 23)) := (Below.refl _ _).alloc (Nat.le_refl _) _
  have r0 := enAt_new w p (k : Int) d
  have HC := Lib.hid (fun W => right8 p (k : Int) d (by unfold maxLen; omega) W)
  obtain ⟨W, hW⟩ : ∃ W, w.alloc (.cells #[.string p, .int .i64 (k : Int), .string d] 23) = W := ⟨_, rfl⟩
  rw [hW] at hb0 r0
  have HB0 := Lib.hid hb0
  have HR0 := Lib.hid r0
  have HR := Lib.hid hr
  have c0 := r0.c0
  have c1 := r0.c1
  have c2 := r0.c2
  have hk9 := numB_size_nine (n := k) (by omega)
  have hpS := strB_size p
  have hdS := strB_size d
  have hp9 := dg_nine (n := p.size) (by omega)
  have hd9 := dg_nine (n := d.size) (by omega)
  obtain ⟨nk, hnk⟩ : ∃ nk, numB k = nk := ⟨_, rfl⟩
  obtain ⟨sp, hsp⟩ : ∃ sp, strB p = sp := ⟨_, rfl⟩
  obtain ⟨sd, hsd⟩ : ∃ sd, strB d = sd := ⟨_, rfl⟩
  have HL := Lib.hid (show nk ++ sp ++ sd = layE p k d by rw [← hnk, ← hsp, ← hsd]; exact layE_str p k d)
  have z1 : ¬ 9223372036854775807 < nk.size + sp.size := by rw [← hnk, ← hsp]; omega
  have z2 : ¬ 9223372036854775807 < nk.size + sp.size + sd.size := by rw [← hnk, ← hsp, ← hsd]; omega
  have HK : Hid (∀ w0 w', OldC w0 w' → Calls Tryd.prog 24 #[.int .i64 (k : Int)] w' fun e w'' => e = .returned (.string nk) ∧ OldC w0 w'') := fun w0 w' hw' => by
    rw [← hnk]
    refine (num_any k (by omega) w').mono ?_
    rintro e w'' ⟨rfl, hb⟩
    exact ⟨rfl, hw'.then hb⟩
  have HSP : Hid (∀ w0 w', OldC w0 w' → Calls Tryd.prog 25 #[.string p] w' fun e w'' => e = .returned (.string sp) ∧ OldC w0 w'') := fun w0 w' hw' => by
    rw [← hsp]
    refine (str_any p (by omega) w').mono ?_
    rintro e w'' ⟨rfl, hb⟩
    exact ⟨rfl, hw'.then hb⟩
  have HSD : Hid (∀ w0 w', OldC w0 w' → Calls Tryd.prog 25 #[.string d] w' fun e w'' => e = .returned (.string sd) ∧ OldC w0 w'') := fun w0 w' hw' => by
    rw [← hsd]
    refine (str_any d (by omega) w').mono ?_
    rintro e w'' ⟨rfl, hb⟩
    exact ⟨rfl, hw'.then hb⟩
  clear hb0 r0 hr h1 h2 h3 h4 hp54 hk9 hpS hdS hp9 hd9 hnk hsp hsd
  go_enter Tryd.func11, Tryd.ntmps11
  go_wp2_with fail
  refine (HC.out _).mono ?_
  rintro e w1 ⟨rfl, hb1⟩
  rw [HR.out]
  have HB1 := Lib.hid (HB0.out.trans (hb1.mono HB0.out.size))
  have r1 := HR0.out.below hb1
  have d0 := r1.c0
  have d1 := r1.c1
  have d2 := r1.c2
  clear hb1 r1 c0 c1 c2 hW
  go_wp2_with fail
  refine wp_region_old (by kernel_rfl) (by kernel_rfl) ?_
  repeat (go_big_quiet_step ((first | (intro hw; with_reducible exact HK.out _ _ hw) | (intro hw; with_reducible exact HSP.out _ _ hw) | (intro hw; with_reducible exact HSD.out _ _ hw))))
  refine wpQuiet_nil ?_
  intro w9 hw9
  have HE := Lib.hid (show Below w.heap.size w w9 from HB1.out.trans (Below.mono hw9 HB1.out.size))
  clear hw9
  go_wp2
  go_ret2
  exact ⟨by rw [← HL.out]; rfl, HE.out⟩
end Go.Proofs.YtdpgdnofiepkoaaDoor
