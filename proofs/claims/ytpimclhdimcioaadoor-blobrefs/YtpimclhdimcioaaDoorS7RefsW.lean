/-
  The contract of package blob's Read, and of its helper numbers: the three numbers, if they are there; else ErrForm, and nothing is read; of nil. Condition: the bytes fit in memory.
  The contract of package blob's Read: the three numbers, if they are there; else ErrForm, and nothing is read; of nil. Condition: the bytes fit in memory.
  What the law BlobRefs asks of Read and Get: of any bytes, and of any place. Conditions: as each says.
  The law BlobRefs, walked: for every place and every text it returns true and changes nothing that was there. Condition: errorType holds error's type.
  The law BlobRefs: it returns true and changes nothing that was there. Condition: errorType holds error's type.
-/
import Derived.Test.YtpimclhdimcioaaDoorS7Put
import Derived.Test.YtpimclhdimcioaaDoorS4Bad2
import Derived.Test.YtpimclhdimcioaaDoorS7Law
import Derived.Test.YtpimclhdimcioaaDoorS7Awake
import Derived.Test.YtpimclhdimcioaaDoorS4Ref
import Derived.Deep.CutRange
namespace Go.Proofs.YtpimclhdimcioaaDoor
open Go.RowKit

theorem set_set7 (w : World) (p : Nat) (v v' : Value) : (w.setCell ⟨p, 0, none⟩ v).setCell ⟨p, 0, none⟩ v' = w.setCell ⟨p, 0, none⟩ v' := by
  unfold World.setCell
  congr 1
  apply Array.ext_getElem?
  intro i
  simp only [Array.getElem?_modify]
  by_cases h : p = i
  · subst h
    simp only [if_true]
    cases w.heap[p]? with
    | none => rfl
    | some o => cases o <;> simp
  · simp only [if_neg h]
theorem set_self7 {w : World} {p : Nat} {v : Value} (h : w.cell? ⟨p, 0, none⟩ = some v) : w.setCell ⟨p, 0, none⟩ v = w := by
  have e : (w.setCell ⟨p, 0, none⟩ v).heap = w.heap := by
    unfold World.setCell
    apply Array.ext_getElem?
    intro i
    simp only [Array.getElem?_modify]
    by_cases hi : p = i
    · subst hi
      simp only [if_true]
      unfold World.cell? at h
      simp only at h
      cases ho : w.heap[p]? with
      | none => rfl
      | some o =>
        rw [ho] at h
        cases o with
        | cells c e f =>
          simp at h
          have : c.setIfInBounds 0 v = c := by
            apply Array.ext_getElem?
            intro j
            rw [Array.getElem?_setIfInBounds]
            split
            · rename_i hj
              subst hj
              split
              · rw [h]
              · rename_i hlt
                rw [Array.getElem?_eq_none (by omega)] at h
                cases h
            · rfl
          simp [this]
        | _ => simp at h
    · simp only [if_neg hi]
  show { w with heap := (w.setCell ⟨p, 0, none⟩ v).heap } = w
  rw [e]
theorem rd_trans {w w1 w2 : World} {p : Nat} {v1 v2 : Value} (h1 : Below w.heap.size (w.setCell ⟨p, 0, none⟩ v1) w1) (h2 : Below w1.heap.size (w1.setCell ⟨p, 0, none⟩ v2) w2) : Below w.heap.size (w.setCell ⟨p, 0, none⟩ v2) w2 := by
  have h3 := below_set h1 ⟨p, 0, none⟩ v2
  rw [set_set7] at h3
  exact h3.trans (h2.mono (by simpa [World.setCell] using h1.size))
theorem rd_then {w w1 w2 : World} {p : Nat} {v1 : Value} (h1 : Below w.heap.size (w.setCell ⟨p, 0, none⟩ v1) w1) (h2 : Below w1.heap.size w1 w2) : Below w.heap.size (w.setCell ⟨p, 0, none⟩ v1) w2 :=
  h1.trans (h2.mono (by simpa [World.setCell] using h1.size))
theorem rd_old {w w1 w2 : World} {p : Nat} {v1 : Value} (h1 : Below w.heap.size w w1) (h2 : Below w1.heap.size (w1.setCell ⟨p, 0, none⟩ v1) w2) : Below w.heap.size (w.setCell ⟨p, 0, none⟩ v1) w2 :=
  (below_set h1 _ _).trans (h2.mono h1.size)
/-- The bytes begin with the three numbers. -/
def Ref3 (l : List UInt8) (k n x : Nat) (rest : List UInt8) : Prop := l = dg k ++ (dg n ++ (dg x ++ rest)) ∧ k ≤ 2048 ∧ n ≤ 16384 ∧ x ≤ 4294967295
set_option maxRecDepth 10000 in
set_option maxHeartbeats 1000000 in
theorem nums_good (s : ByteArray) (hz : s.size ≤ 4611686018427387904) (k n x : Nat) (rest : List UInt8) (h3 : Ref3 s.data.toList k n x rest) (p : Nat) (w : World) (hp : Rd w p s) :
    Calls Tryd.prog 32 #[.pointer (some ⟨p, 0, none⟩)] w fun e w' => e = .returned (.tuple #[refV k n x, .nilIface]) ∧ Below w.heap.size (w.setCell ⟨p, 0, none⟩ (.string (bs rest))) w' := by
  obtain ⟨hl, h1, h2, h4⟩ := h3
  have hlen := congrArg List.length hl
  rw [List.length_append, List.length_append, List.length_append, ← Lib.size_eq] at hlen
  obtain ⟨W, hW⟩ : ∃ W, w.alloc (.cells #[.int .i64 0, .int .i64 0, .int .u32 0] 32) = W := ⟨_, rfl⟩
  have hb : Below w.heap.size w W := by rw [← hW]; exact (Below.refl _ _).alloc (Nat.le_refl _) _
  have r0 : RfAt W w.heap.size 0 0 0 := by rw [← hW]; exact rfAt_new _ _ _ _
  have HR0 := Lib.hid r0
  have HB := Lib.hid hb
  have H1 := Lib.hid (rNum_good k 2048 s _ hl hz (by omega) (by omega) p W (hp.below hb))
  have H2 := Lib.hid (fun (W1 : World) (h : Rd W1 p (bs (dg n ++ (dg x ++ rest)))) => rNum_good n 16384 (bs (dg n ++ (dg x ++ rest))) _ (bs_list _) (by rw [bs_size, List.length_append, List.length_append]; omega) (by omega) (by omega) p W1 h)
  have H3 := Lib.hid (fun (W1 : World) (h : Rd W1 p (bs (dg x ++ rest))) => rNum_good x 4294967295 (bs (dg x ++ rest)) _ (bs_list _) (by rw [bs_size, List.length_append]; omega) (by omega) (by omega) p W1 h)
  have HP := Lib.hid (hp.below hb)
  have HN := Lib.hid hp.1
  have hwx : IntKind.u32.wrap (x : Int) = (x : Int) := wraps_u32 _ (by omega) (by omega)
  clear hlen hl hz h1 h2 h4 hb r0 hp
  go_enter Tryd.func32, Tryd.ntmps32
  go_wp2_with fail
  refine H1.out.mono ?_
  rintro e w1 ⟨rfl, hb1⟩
  have HB1 := Lib.hid (rd_old HB.out hb1)
  have HP1 := Lib.hid (HP.out.next hb1)
  have HA1 := Lib.hid (show RfAt w1 w.heap.size 0 0 0 from HR0.out.of ((hb1.block _ HR0.out.lt).trans (Below.heap_setCell _ _ _ _ (by have := HN.out; simp; omega))))
  clear hb1 H1 HP HR0 HB hW
  go_wp2_with fail
  refine (H2.out _ HP1.out).mono ?_
  rintro e w2 ⟨rfl, hb2⟩
  have HB2 := Lib.hid (rd_trans HB1.out hb2)
  have HP2 := Lib.hid (HP1.out.next hb2)
  have HA2 := Lib.hid (show RfAt w2 w.heap.size 0 0 0 from HA1.out.of ((hb2.block _ HA1.out.lt).trans (Below.heap_setCell _ _ _ _ (by have := HN.out; simp; omega))))
  clear hb2 H2 HP1 HA1 HB1
  go_wp2_with fail
  refine (H3.out _ HP2.out).mono ?_
  rintro e w3 ⟨rfl, hb3⟩
  have HB3 := Lib.hid (rd_trans HB2.out hb3)
  have r3 : RfAt w3 w.heap.size 0 0 0 := HA2.out.of ((hb3.block _ HA2.out.lt).trans (Below.heap_setCell _ _ _ _ (by have := HN.out; simp; omega)))
  have c0 := r3.c0
  have c1 := r3.c1
  have c2 := r3.c2
  have f0 := r3.f0
  have f1 := r3.f1
  have f2 := r3.f2
  have HR3 := Lib.hid r3
  clear hb3 H3 HP2 HA2 HB2 r3
  go_wp2
  have hld := lv_rf3 HR3.out k n x
  refine bodyPost_ret (v := .tuple #[refV k n x, .nilIface]) ?_ rfl ⟨rfl, below_rf3 HB3.out (Nat.le_refl _) _ _ _⟩
  rw [results_cell2 rfl]
  simp [asAddr, Result.andThen, hld]
set_option maxRecDepth 10000 in
set_option maxHeartbeats 1000000 in
theorem nums_bad (s : ByteArray) (hz : s.size ≤ 4611686018427387904) (hno : ∀ k n x rest, ¬ Ref3 s.data.toList k n x rest) (p : Nat) (w : World) (hp : Rd w p s) :
    Calls Tryd.prog 32 #[.pointer (some ⟨p, 0, none⟩)] w fun e w' => e = .returned (.tuple #[refV 0 0 0, .iface 57 (.int .i64 13)]) ∧ ∃ t, Below w.heap.size (w.setCell ⟨p, 0, none⟩ (.string t)) w' := by
  obtain ⟨W, hW⟩ : ∃ W, w.alloc (.cells #[.int .i64 0, .int .i64 0, .int .u32 0] 32) = W := ⟨_, rfl⟩
  have hb : Below w.heap.size w W := by rw [← hW]; exact (Below.refl _ _).alloc (Nat.le_refl _) _
  have r0 : RfAt W w.heap.size 0 0 0 := by rw [← hW]; exact rfAt_new _ _ _ _
  have HR0 := Lib.hid r0
  have HB := Lib.hid hb
  have HP := Lib.hid (hp.below hb)
  have HN := Lib.hid hp.1
  have HSF := Lib.hid (set_self7 hp.2.1)
  rcases bad_or s 2048 with hbad | ⟨k, rest1, hl1, hk1, hk2⟩
  · have H1 := Lib.hid (rNum_bad 2048 s hbad hz p W (hp.below hb))
    clear hbad hno hz hp hb r0
    go_enter Tryd.func32, Tryd.ntmps32
    go_wp2_with fail
    refine (H1.out).mono ?_
    rintro e w1 ⟨rfl, hb1⟩
    have r1 := HR0.out.below hb1
    have c0 := r1.c0
    have c1 := r1.c1
    have c2 := r1.c2
    have f0 := r1.f0
    have f1 := r1.f1
    have f2 := r1.f2
    have HR1 := Lib.hid r1
    have HZ := Lib.hid (show Below w.heap.size (w.setCell ⟨p, 0, none⟩ (.string s)) w1 by rw [HSF.out]; exact HB.out.trans (hb1.mono HB.out.size))
    clear hb1 r1
    go_wp2
    have hld := lv_rf3 HR1.out 0 0 0
    refine bodyPost_ret (v := .tuple #[refV 0 0 0, .iface 57 (.int .i64 13)]) ?_ rfl ⟨rfl, _, below_rf3 HZ.out (Nat.le_refl _) _ _ _⟩
    rw [results_cell2 rfl]
    simp [asAddr, Result.andThen, hld]
  · have hlen1 := congrArg List.length hl1
    rw [List.length_append, ← Lib.size_eq] at hlen1
    have H1 := Lib.hid (rNum_good k 2048 s _ hl1 hz hk1 hk2 p W (hp.below hb))
    rcases bad_or (bs rest1) 16384 with hbad | ⟨n, rest2, hl2, hn1, hn2⟩
    · have H2 := Lib.hid (fun (W1 : World) (h : Rd W1 p (bs rest1)) => rNum_bad 16384 (bs rest1) hbad (by rw [bs_size]; omega) p W1 h)
      clear hbad hno hz hp hb r0 hl1 hk1 hk2 hlen1
      go_enter Tryd.func32, Tryd.ntmps32
      go_wp2_with fail
      refine (H1.out).mono ?_
      rintro e w1 ⟨rfl, hb1⟩
      have HB1 := Lib.hid (rd_old HB.out hb1)
      have HP1 := Lib.hid (HP.out.next hb1)
      have HA1 := Lib.hid (show RfAt w1 w.heap.size 0 0 0 from HR0.out.of ((hb1.block _ HR0.out.lt).trans (Below.heap_setCell _ _ _ _ (by have := HN.out; simp; omega))))
      clear hb1
      go_wp2_with fail
      refine (H2.out _ HP1.out).mono ?_
      rintro e w2 ⟨rfl, hb2⟩
      have r2 := HA1.out.below hb2
      have c0 := r2.c0
      have c1 := r2.c1
      have c2 := r2.c2
      have f0 := r2.f0
      have f1 := r2.f1
      have f2 := r2.f2
      have HR2 := Lib.hid r2
      have HZ := Lib.hid (rd_then HB1.out hb2)
      clear hb2 r2
      go_wp2
      have hld := lv_rf3 HR2.out 0 0 0
      refine bodyPost_ret (v := .tuple #[refV 0 0 0, .iface 57 (.int .i64 13)]) ?_ rfl ⟨rfl, _, below_rf3 HZ.out (Nat.le_refl _) _ _ _⟩
      rw [results_cell2 rfl]
      simp [asAddr, Result.andThen, hld]
    · rw [bs_list] at hl2
      have hlen2 := congrArg List.length hl2
      rw [List.length_append] at hlen2
      have H2 := Lib.hid (fun (W1 : World) (h : Rd W1 p (bs rest1)) => rNum_good n 16384 (bs rest1) rest2 (by rw [bs_list, hl2]) (by rw [bs_size]; omega) hn1 hn2 p W1 h)
      rcases bad_or (bs rest2) 4294967295 with hbad | ⟨x, rest3, hl3, hx1, hx2⟩
      · have H3 := Lib.hid (fun (W1 : World) (h : Rd W1 p (bs rest2)) => rNum_bad 4294967295 (bs rest2) hbad (by rw [bs_size]; omega) p W1 h)
        clear hbad hno hz hp hb r0 hl1 hk1 hk2 hlen1 hl2 hn1 hn2 hlen2
        go_enter Tryd.func32, Tryd.ntmps32
        go_wp2_with fail
        refine (H1.out).mono ?_
        rintro e w1 ⟨rfl, hb1⟩
        have HB1 := Lib.hid (rd_old HB.out hb1)
        have HP1 := Lib.hid (HP.out.next hb1)
        have HA1 := Lib.hid (show RfAt w1 w.heap.size 0 0 0 from HR0.out.of ((hb1.block _ HR0.out.lt).trans (Below.heap_setCell _ _ _ _ (by have := HN.out; simp; omega))))
        clear hb1
        go_wp2_with fail
        refine (H2.out _ HP1.out).mono ?_
        rintro e w2 ⟨rfl, hb2⟩
        have HB2 := Lib.hid (rd_trans HB1.out hb2)
        have HP2 := Lib.hid (HP1.out.next hb2)
        have HA2 := Lib.hid (show RfAt w2 w.heap.size 0 0 0 from HA1.out.of ((hb2.block _ HA1.out.lt).trans (Below.heap_setCell _ _ _ _ (by have := HN.out; simp; omega))))
        clear hb2
        go_wp2_with fail
        refine (H3.out _ HP2.out).mono ?_
        rintro e w3 ⟨rfl, hb3⟩
        have r3 := HA2.out.below hb3
        have c0 := r3.c0
        have c1 := r3.c1
        have c2 := r3.c2
        have f0 := r3.f0
        have f1 := r3.f1
        have f2 := r3.f2
        have HR3 := Lib.hid r3
        have HZ := Lib.hid (rd_then HB2.out hb3)
        clear hb3 r3
        go_wp2
        have hld := lv_rf3 HR3.out 0 0 0
        refine bodyPost_ret (v := .tuple #[refV 0 0 0, .iface 57 (.int .i64 13)]) ?_ rfl ⟨rfl, _, below_rf3 HZ.out (Nat.le_refl _) _ _ _⟩
        rw [results_cell2 rfl]
        simp [asAddr, Result.andThen, hld]
      · rw [bs_list] at hl3
        exact absurd ⟨by rw [hl1, hl2, hl3], by omega, by omega, by omega⟩ (hno k n x rest3)
end Go.Proofs.YtpimclhdimcioaaDoor

namespace Go.Proofs.YtpimclhdimcioaaDoor
open Go.RowKit

set_option maxRecDepth 10000 in
theorem bread_nil (w : World) : Calls Tryd.prog 21 #[.pointer none] w fun e w' => e = .returned (.tuple #[refV 0 0 0, .iface 57 (.int .i64 1)]) ∧ Below w.heap.size w w' := by
  go_enter Tryd.func21, Tryd.ntmps21
  go_wp2
  have hld := lv_rf (rfAt_new w 0 0 0)
  refine bodyPost_ret (v := .tuple #[refV 0 0 0, .iface 57 (.int .i64 1)]) ?_ rfl ⟨rfl, (Below.refl _ _).alloc (Nat.le_refl _) _⟩
  rw [results_cell2 rfl]
  simp [asAddr, Result.andThen, hld]
/-- Two new blocks: a place, all 0; a reader. -/
theorem rd_two (w : World) (s : ByteArray) : ∃ W, (w.alloc (.cells #[.int .i64 0, .int .i64 0, .int .u32 0] 32)).alloc (.cells #[.string s] 74) = W ∧ RfAt W w.heap.size 0 0 0 ∧ Rd W (w.heap.size + 1) s ∧ Below w.heap.size w W := by
  refine ⟨_, rfl, (rfAt_new w 0 0 0).below ((Below.refl _ _).alloc (Nat.le_refl _) _), ⟨by simp, ?_, ?_⟩, ((Below.refl _ _).alloc (Nat.le_refl _) _).alloc (by simp) _⟩
  · have := (fnew (w.alloc (.cells #[.int .i64 0, .int .i64 0, .int .u32 0] 32)) (.string s) 74).1
    rwa [show (w.alloc (.cells #[.int .i64 0, .int .i64 0, .int .u32 0] 32)).heap.size = w.heap.size + 1 by simp] at this
  · have := (fnew (w.alloc (.cells #[.int .i64 0, .int .i64 0, .int .u32 0] 32)) (.string s) 74).2
    rwa [show (w.alloc (.cells #[.int .i64 0, .int .i64 0, .int .u32 0] 32)).heap.size = w.heap.size + 1 by simp] at this
set_option maxRecDepth 10000 in
set_option maxHeartbeats 1000000 in
theorem bread_good (s : ByteArray) (hz : s.size ≤ 4611686018427387904) (k n x : Nat) (rest : List UInt8) (h3 : Ref3 s.data.toList k n x rest) (p : Nat) (w : World) (hp : Rd w p s) :
    Calls Tryd.prog 21 #[.pointer (some ⟨p, 0, none⟩)] w fun e w' => e = .returned (.tuple #[refV k n x, .nilIface]) ∧ Below w.heap.size (w.setCell ⟨p, 0, none⟩ (.string (bs rest))) w' := by
  obtain ⟨W, hW, r0, hr, hb⟩ := rd_two w s
  have HC := Lib.hid (nums_good s hz k n x rest h3 p W (hp.below hb))
  have HR0 := Lib.hid r0
  have HB := Lib.hid hb
  have HN := Lib.hid hp.1
  have hpc := (hp.below ((Below.refl w.heap.size w).alloc (Nat.le_refl _) (.cells #[.int .i64 0, .int .i64 0, .int .u32 0] 32))).2.1
  clear hz h3 r0 hr hb hp
  go_enter Tryd.func21, Tryd.ntmps21
  go_wp2_with fail
  refine HC.out.mono ?_
  rintro e w2 ⟨rfl, hb2⟩
  have HB2 := Lib.hid (rd_old HB.out hb2)
  have r2 : RfAt w2 w.heap.size 0 0 0 := HR0.out.of ((hb2.block _ HR0.out.lt).trans (Below.heap_setCell _ _ _ _ (by have := HN.out; simp; omega)))
  have hs2 : w.heap.size < w2.heap.size := r2.lt
  have r3 := r2.below ((Below.refl w2.heap.size w2).alloc (Nat.le_refl _) (.cells #[.int .i64 (k : Int), .int .i64 (n : Int), .int .u32 (x : Int)] 32))
  have c0 := r3.c0
  have c1 := r3.c1
  have c2 := r3.c2
  have f0 := r3.f0
  have f1 := r3.f1
  have f2 := r3.f2
  have HR3 := Lib.hid r3
  have HB3 := Lib.hid (rd_then HB2.out ((Below.refl w2.heap.size w2).alloc (Nat.le_refl _) (.cells #[.int .i64 (k : Int), .int .i64 (n : Int), .int .u32 (x : Int)] 32)))
  clear hb2 r2 r3 HC HR0 HB hpc hW hs2
  go_wp2
  have hld := lv_rf3 HR3.out k n x
  refine bodyPost_ret (v := .tuple #[refV k n x, .nilIface]) ?_ rfl ⟨rfl, below_rf3 HB3.out (Nat.le_refl _) _ _ _⟩
  rw [results_cell2 rfl]
  simp [asAddr, Result.andThen, hld]
set_option maxRecDepth 10000 in
set_option maxHeartbeats 1000000 in
theorem bread_bad (s : ByteArray) (hz : s.size ≤ 4611686018427387904) (hno : ∀ k n x rest, ¬ Ref3 s.data.toList k n x rest) (p : Nat) (w : World) (hp : Rd w p s) :
    Calls Tryd.prog 21 #[.pointer (some ⟨p, 0, none⟩)] w fun e w' => e = .returned (.tuple #[refV 0 0 0, .iface 57 (.int .i64 13)]) ∧ Below w.heap.size w w' := by
  obtain ⟨W, hW, r0, hr, hb⟩ := rd_two w s
  have HC := Lib.hid (nums_bad s hz hno p W (hp.below hb))
  have HR0 := Lib.hid r0
  have HRD := Lib.hid hr
  have HB := Lib.hid hb
  have HN := Lib.hid hp.1
  have HPW := Lib.hid (hp.below hb)
  have HSF := Lib.hid (set_self7 hp.2.1)
  have hpc := (hp.below ((Below.refl w.heap.size w).alloc (Nat.le_refl _) (.cells #[.int .i64 0, .int .i64 0, .int .u32 0] 32))).2.1
  clear hz hno r0 hr hb hp
  go_enter Tryd.func21, Tryd.ntmps21
  go_wp2_with fail
  refine HC.out.mono ?_
  rintro e w2 ⟨rfl, t, hb2⟩
  have hbA : Below w2.heap.size w2 (w2.alloc (.cells #[.int .i64 0, .int .i64 0, .int .u32 0] 32)) := (Below.refl w2.heap.size w2).alloc (Nat.le_refl _) _
  have r3 : RfAt (w2.alloc (.cells #[.int .i64 0, .int .i64 0, .int .u32 0] 32)) w.heap.size 0 0 0 := (HR0.out.of ((hb2.block _ HR0.out.lt).trans (Below.heap_setCell _ _ _ _ (by have := HN.out; simp; omega)))).below hbA
  have p3 := (HPW.out.next hb2).below hbA
  have q3 : Rd (w2.alloc (.cells #[.int .i64 0, .int .i64 0, .int .u32 0] 32)) (w.heap.size + 1) s := by
    refine Rd.below (w := w2) ⟨Nat.lt_of_lt_of_le HRD.out.1 (by simpa [World.setCell] using hb2.size), ?_, ?_⟩ hbA
    · rw [World.cell?_of_block (w := W) ((hb2.block _ HRD.out.1).trans (Below.heap_setCell _ _ _ _ (by have := HN.out; simp; omega)))]
      exact HRD.out.2.1
    · rw [World.frozen?_of_block (w := W) ((hb2.block _ HRD.out.1).trans (Below.heap_setCell _ _ _ _ (by have := HN.out; simp; omega)))]
      exact HRD.out.2.2
  have HZ := Lib.hid (show Below w.heap.size w ((w2.alloc (.cells #[.int .i64 0, .int .i64 0, .int .u32 0] 32)).setCell ⟨p, 0, none⟩ (.string s)) by
    have h4 := rd_then (rd_old HB.out hb2) hbA
    have h5 := below_set h4 ⟨p, 0, none⟩ (.string s)
    rw [set_set7, HSF.out] at h5
    exact h5)
  have r4 : RfAt ((w2.alloc (.cells #[.int .i64 0, .int .i64 0, .int .u32 0] 32)).setCell ⟨p, 0, none⟩ (.string s)) w.heap.size 0 0 0 := r3.of (Below.heap_setCell _ _ _ _ (by have := HN.out; simp; omega))
  have HR4 := Lib.hid r4
  have c0 := r4.c0
  have c1 := r4.c1
  have c2 := r4.c2
  have f0 := r4.f0
  have f1 := r4.f1
  have f2 := r4.f2
  have d0 := p3.2.1
  have d1 := p3.2.2
  have e0 := q3.2.1
  clear hb2 hbA r3 r4 p3 q3 HR0 HRD HPW HB hW hpc HC
  go_wp2
  have hld := lv_rf3 HR4.out 0 0 0
  refine bodyPost_ret (v := .tuple #[refV 0 0 0, .iface 57 (.int .i64 13)]) ?_ rfl ⟨rfl, below_rf3 HZ.out (Nat.le_refl _) _ _ _⟩
  rw [results_cell2 rfl]
  simp [asAddr, Result.andThen, hld]
end Go.Proofs.YtpimclhdimcioaaDoor

namespace Go.Proofs.YtpimclhdimcioaaDoor
open Go.RowKit Go.Maps

theorem bread_any (s : ByteArray) (hz : s.size ≤ 4611686018427387904) (p : Nat) (w : World) (hp : Rd w p s) :
    Calls Tryd.prog 21 #[.pointer (some ⟨p, 0, none⟩)] w fun e w' => ∃ a b c ce : Int, e = .returned (.tuple #[refV a b c, errV ce]) ∧ (ce = 0 ∨ (ce = 13 ∧ a = 0 ∧ b = 0 ∧ c = 0)) ∧ Below p w w' := by
  by_cases h : ∃ k n x rest, Ref3 s.data.toList k n x rest
  · obtain ⟨k, n, x, rest, h3⟩ := h
    refine (bread_good s hz k n x rest h3 p w hp).mono ?_
    rintro e w' ⟨rfl, hb⟩
    exact ⟨k, n, x, 0, rfl, .inl rfl, below_next (Below.refl p w) (Nat.le_refl p) (Nat.le_of_lt hp.1) hb⟩
  · refine (bread_bad s hz (fun k n x rest h3 => h ⟨k, n, x, rest, h3⟩) p w hp).mono ?_
    rintro e w' ⟨rfl, hb⟩
    exact ⟨0, 0, 0, 13, rfl, .inr ⟨rfl, rfl, rfl, rfl⟩, hb.mono (Nat.le_of_lt hp.1)⟩
theorem get_some {w : World} {F : Nat → Prop} {b : Nat} {D : DskV} (h : IsDsk w F b D) (hdn : D.down = false) (k n s : Int) :
    Calls Tryd.prog 11 #[.pointer (some ⟨b, 0, none⟩), refV k n s] w fun e w' => ∃ (t : ByteArray) (cg : Int), e = .returned (.tuple #[.string t, errV cg]) ∧ (rt k n D.size = false → cg = 1) ∧ Below w.heap.size w w' := by
  cases hr : rt k n D.size with
  | false =>
    refine (get_arg _ D.size (by have := h.ok.hi; omega) k n s hr w (fun w1 hb => sizeIs_dsk (h.below hb))).mono ?_
    rintro e w' ⟨rfl, hb⟩
    exact ⟨_, 1, rfl, fun _ => rfl, hb⟩
  | true =>
    have hn := (rt_true hr).1
    obtain ⟨m, rfl⟩ : ∃ m : Nat, n = (m : Int) := ⟨n.toNat, by
      unfold pgs at hn
      split at hn <;> omega⟩
    refine (get_run h hdn k m s hr).mono ?_
    rintro e w' ⟨rfl, hb⟩
    exact ⟨_, _, rfl, (fun e => by cases e), hb⟩
/-- Does a text lie on a disk of 20 sectors? -/
def R20 (k n : Int) : Prop := (1 ≤ n ∧ n ≤ 1280) ∧ 0 ≤ k ∧ k ≤ 20 - (n + 63) / 64
instance (k n : Int) : Decidable (R20 k n) := by unfold R20; infer_instance
theorem pgs_in {n : Int} (h1 : 1 ≤ n) (h2 : n ≤ 16384) : pgs n = (n + 63) / 64 := if_neg (by omega)
theorem pgs_some {n : Int} (h : 0 < pgs n) : 1 ≤ n ∧ n ≤ 16384 := by
  unfold pgs at h
  split at h <;> omega
theorem rt_R20 (k n : Int) : rt k n 20 = decide (R20 k n) := by
  by_cases h : R20 k n
  · rw [decide_eq_true h]
    unfold R20 at h
    exact rt_of h.1.1 (by omega) h.2.1 (by rw [pgs_in h.1.1 (by omega)]; omega)
  · rw [decide_eq_false h]
    cases hr : rt k n 20 with
    | false => rfl
    | true =>
      have h2 := rt_true hr
      have h3 := pgs_some h2.1
      rw [pgs_in h3.1 h3.2] at h2
      exact absurd ⟨⟨h3.1, by omega⟩, h2.2.2.1, h2.2.2.2⟩ h
theorem lay_list {k n x : Nat} (hk : k ≤ 4611686018427387904) (hn : n ≤ 4611686018427387904) (hx : x ≤ 4611686018427387904) : (layB (k : Int) (n : Int) (x : Int)).data.toList = dg k ++ (dg n ++ dg x) := by
  unfold layB
  rw [numI_nat hk, numI_nat hn, numI_nat hx, ByteArray.data_append, ByteArray.data_append, Array.toList_append, Array.toList_append, numB_list, numB_list, numB_list, List.append_assoc]
theorem append_none (a : ByteArray) : a ++ (⟨#[]⟩ : ByteArray) = a := by
  apply ByteArray.ext
  apply Array.ext'
  rw [ByteArray.data_append, Array.toList_append]
  simp
theorem none_append (a : ByteArray) : (⟨#[]⟩ : ByteArray) ++ a = a := by
  apply ByteArray.ext
  apply Array.ext'
  rw [ByteArray.data_append, Array.toList_append]
  simp
theorem lay_size (k n x : Int) : (layB k n x).size ≤ 27 := by
  have h1 := numI_size k
  have h2 := numI_size n
  have h3 := numI_size x
  unfold layB
  rw [ByteArray.size_append, ByteArray.size_append]
  omega
theorem rnum_int {n : Int} (h : 0 ≤ n ∧ n ≤ 4611686018427387904) (w : World) : Calls Tryd.prog 19 #[.int .i64 n] w fun e w' => e = .returned (.string (numI n)) ∧ Below w.heap.size w w' := by
  obtain ⟨m, rfl⟩ : ∃ m : Nat, n = (m : Int) := ⟨n.toNat, by omega⟩
  rw [numI_nat (by omega)]
  exact rnum_any m (by omega) w
end Go.Proofs.YtpimclhdimcioaaDoor

namespace Go.Proofs.YtpimclhdimcioaaDoor
open Go.RowKit Go.Maps

set_option maxRecDepth 10000 in
set_option maxHeartbeats 1000000 in
theorem refs_long (k n x : Int) (s : ByteArray) (h : (20000 : Int) < (s.size : Int)) (W : World) :
    Calls Tryd.prog 5 #[refV k n x, .string s] W fun e w' => e = .returned (.bool true) ∧ Below W.heap.size W w' := by
  have HB0 := Lib.hid (show Below W.heap.size W (W.alloc (.cells #[.int .i64 k, .int .i64 n, .int .u32 x] 32)) from (Below.refl _ _).alloc (Nat.le_refl _) _)
  go_enter Tryd.func5, Tryd.ntmps5
  go_wp2_with fail
  refine (awake7 _).mono ?_
  rintro e w1 ⟨rfl, hb⟩
  have HB := Lib.hid (HB0.out.trans (hb.mono HB0.out.size))
  clear hb
  go_wp2_with fail
  refine (awake7 _).mono ?_
  rintro e w2 ⟨rfl, hb⟩
  have HB2 := Lib.hid (HB.out.trans (hb.mono HB.out.size))
  clear hb
  go_wp2
  go_ret
  exact ⟨rfl, HB2.out⟩
set_option maxRecDepth 10000 in
set_option maxHeartbeats 4000000 in
theorem refs_good (k n x : Int) (hx0 : 0 ≤ x) (hx1 : x < 4294967296) (s : ByteArray) (hs : ¬ (20000 : Int) < (s.size : Int)) (W : World) (hg : EtLaid W) :
    Calls Tryd.prog 5 #[refV k n x, .string s] W fun e w' => e = .returned (.bool true) ∧ Below W.heap.size W w' := by
  obtain ⟨V, hV⟩ : ∃ V, W.alloc (.cells #[.int .i64 k, .int .i64 n, .int .u32 x] 32) = V := ⟨_, rfl⟩
  obtain ⟨N, hN⟩ : ∃ N, W.heap.size = N := ⟨_, rfl⟩
  have hbV : Below N W V := by rw [← hV, ← hN]; exact (Below.refl _ _).alloc (Nat.le_refl _) _
  have hVs : V.heap.size = N + 1 := by rw [← hV, ← hN]; simp
  have rV : RfAt V N k n x := by rw [← hV, ← hN]; exact rfAt_new _ _ _ _
  have HG : Hid (EtLaid V) := hg.below hg.lt (hN ▸ hbV)
  have HV := Lib.hid hbV
  have HVS := Lib.hid hVs
  have HR : Hid (∀ w, Below V.heap.size V w → RfAt w N k n x) := fun w hb => rV.below hb
  have HX := Lib.hid (And.intro hx0 hx1)
  have HS := Lib.hid (show s.size ≤ 20000 by omega)
  have hwx : IntKind.i64.wrap x = x := IntWalk.i64_in _ (by omega)
  clear hg hbV hVs rV hx0 hx1
  go_enter Tryd.func5, Tryd.ntmps5
  go_wp2_with fail
  refine (awake7 _).mono ?_
  rintro e w1 ⟨rfl, hb1⟩
  have HB1 := Lib.hid hb1
  have c0 := (HR.out w1 hb1).c0
  clear hb1 hV
  obtain ⟨bk, hbk⟩ : ∃ bk, decide (0 ≤ k ∧ k ≤ 4611686018427387904) = bk := ⟨_, rfl⟩
  obtain ⟨bn, hbn⟩ : ∃ bn, decide (0 ≤ n ∧ n ≤ 4611686018427387904) = bn := ⟨_, rfl⟩
  have HBK := Lib.hid hbk
  have HBN := Lib.hid hbn
  clear hbk hbn
  go_upto_region 4 with fail
  go_cut [32] from 25 to 31 (fun v wc => v = .bool bk ∧ w1 = wc)
  case first =>
    by_cases h1 : 0 ≤ k
    · by_cases h2 : k ≤ 4611686018427387904
      · go_wp2_with fail
        go_meet
        exact ⟨by rw [← HBK.out, decide_eq_true ⟨h1, h2⟩], rfl⟩
      · go_wp2_with fail
        go_meet
        exact ⟨by rw [← HBK.out, decide_eq_false (by omega)], rfl⟩
    · go_wp2_with fail
      go_meet
      exact ⟨by rw [← HBK.out, decide_eq_false (by omega)], rfl⟩
  case rest =>
    obtain ⟨rfl, rfl⟩ := hcut
    go_upto_if 32 with fail
    go_cut [5] from 25 to 35 (fun v wc => v = .string (numI k) ∧ Hid (Below V.heap.size V wc))
    case first =>
      cases hbk : bk with
      | true =>
        have HK := Lib.hid (of_decide_eq_true (HBK.out.trans hbk))
        go_wp2_with fail
        refine (rnum_int HK.out _).mono ?_
        rintro e w2 ⟨rfl, hb2⟩
        have HB2 := Lib.hid (HB1.out.trans (hb2.mono HB1.out.size))
        clear hb2
        go_wp2_with fail
        go_meet
        exact ⟨rfl, HB2⟩
      | false =>
        have HE := Lib.hid (show numI k = ⟨#[]⟩ from if_neg (of_decide_eq_false (HBK.out.trans hbk)))
        go_wp2_with fail
        go_meet
        exact ⟨by rw [HE.out], HB1⟩
    case rest =>
      obtain ⟨rfl, HB2⟩ := hcut
      obtain ⟨ks, hks⟩ : ∃ ks, numI k = ks := ⟨_, rfl⟩
      rw [hks]
      have HKS := Lib.hid hks
      have hk9 := numI_size k
      rw [hks] at hk9
      clear hks
      have c1 := (HR.out wc HB2.out).c1
      go_upto_region 6 with fail
      go_cut [43] from 36 to 42 (fun v wd => v = .bool bn ∧ wc = wd)
      case first =>
        by_cases h1 : 0 ≤ n
        · by_cases h2 : n ≤ 4611686018427387904
          · go_wp2_with fail
            go_meet
            exact ⟨by rw [← HBN.out, decide_eq_true ⟨h1, h2⟩], rfl⟩
          · go_wp2_with fail
            go_meet
            exact ⟨by rw [← HBN.out, decide_eq_false (by omega)], rfl⟩
        · go_wp2_with fail
          go_meet
          exact ⟨by rw [← HBN.out, decide_eq_false (by omega)], rfl⟩
      case rest =>
        obtain ⟨rfl, hcw⟩ := hcut
        rw [← hcw] at *
        clear hcw
        go_upto_if 43 with fail
        go_cut [5] from 36 to 48 (fun v wd => v = .string (ks ++ numI n) ∧ Hid (Below V.heap.size V wd))
        case first =>
          cases hbn : bn with
          | true =>
            have HK := Lib.hid (of_decide_eq_true (HBN.out.trans hbn))
            go_wp2_with fail
            refine (rnum_int HK.out _).mono ?_
            rintro e w2 ⟨rfl, hb2⟩
            have HB3 := Lib.hid (HB2.out.trans (hb2.mono HB2.out.size))
            have hn9 := numI_size n
            obtain ⟨ns, hns⟩ : ∃ ns, numI n = ns := ⟨_, rfl⟩
            rw [hns] at hn9 ⊢
            have hsum : ¬ 9223372036854775807 < ks.size + ns.size := by omega
            have HNS := Lib.hid hns
            clear hb2 hns
            go_wp2_with fail
            go_meet
            exact ⟨by rw [HNS.out], HB3⟩
          | false =>
            have HE := Lib.hid (show numI n = ⟨#[]⟩ from if_neg (of_decide_eq_false (HBN.out.trans hbn)))
            go_wp2_with fail
            go_meet
            exact ⟨by rw [HE.out, append_none], HB2⟩
        case rest =>
          obtain ⟨rfl, HB3⟩ := hcut
          obtain ⟨kn, hkn⟩ : ∃ kn, ks ++ numI n = kn := ⟨_, rfl⟩
          have hkn9 : kn.size ≤ 18 := by
            have := numI_size n
            rw [← hkn, ByteArray.size_append]
            omega
          rw [hkn]
          have HKN := Lib.hid hkn
          have c2 := (HR.out wc HB3.out).c2
          clear hkn
          go_wp2_with fail
          refine (rnum_int ⟨HX.out.1, by have := HX.out; omega⟩ _).mono ?_
          rintro e w4 ⟨rfl, hb4⟩
          have HB4 := Lib.hid (HB3.out.trans (hb4.mono HB3.out.size))
          obtain ⟨xs, hxs⟩ : ∃ xs, numI x = xs := ⟨_, rfl⟩
          have hx9 := numI_size x
          rw [hxs] at hx9 ⊢
          obtain ⟨L, hL⟩ : ∃ L, kn ++ xs = L := ⟨_, rfl⟩
          have HLAY := Lib.hid (show layB k n x = L by
            unfold layB
            rw [HKS.out, HKN.out, hxs, hL])
          have hL27 : L.size ≤ 27 := by rw [← HLAY.out]; exact lay_size _ _ _
          have hsum : ¬ 9223372036854775807 < kn.size + xs.size := by omega
          have r4 := HR.out w4 HB4.out
          have d0 := r4.c0
          have d1 := r4.c1
          have d2 := r4.c2
          clear hb4 hxs r4 c0 c1 c2
          go_wp2_with fail
          refine (lay_any k n x HX.out.1 HX.out.2 _).mono ?_
          rintro e w5 ⟨rfl, hb5⟩
          rw [HLAY.out]
          have HB5 := Lib.hid (HB4.out.trans (hb5.mono HB4.out.size))
          have r5 := HR.out w5 HB5.out
          have e0 := r5.c0
          have e1 := r5.c1
          have e2 := r5.c2
          obtain ⟨br, hbr⟩ : ∃ br, decide ((0 ≤ k ∧ k ≤ 2048) ∧ 0 ≤ n ∧ n ≤ 16384) = br := ⟨_, rfl⟩
          have HBR := Lib.hid hbr
          clear hb5 r5 d0 d1 d2 hbr hL hsum
          go_upto_region 11 with fail
          go_cut [76] from 59 to 75 (fun v wd => v = .bool br ∧ w5 = wd)
          case first =>
            by_cases h1 : 0 ≤ k
            · by_cases h2 : k ≤ 2048
              · by_cases h3 : 0 ≤ n
                · by_cases h4 : n ≤ 16384
                  · go_wp2_with fail
                    go_meet
                    exact ⟨by rw [← HBR.out, decide_eq_true ⟨⟨h1, h2⟩, h3, h4⟩], rfl⟩
                  · go_wp2_with fail
                    go_meet
                    exact ⟨by rw [← HBR.out, decide_eq_false (by omega)], rfl⟩
                · go_wp2_with fail
                  go_meet
                  exact ⟨by rw [← HBR.out, decide_eq_false (by omega)], rfl⟩
              · go_wp2_with fail
                go_meet
                exact ⟨by rw [← HBR.out, decide_eq_false (by omega)], rfl⟩
            · go_wp2_with fail
              go_meet
              exact ⟨by rw [← HBR.out, decide_eq_false (by omega)], rfl⟩
          case rest =>
            obtain ⟨rfl, hcw⟩ := hcut
            rw [← hcw] at *
            clear hcw
            go_upto_if 76 with fail
            go_cut [6, 7] from 59 to 92 (fun _ _ wd => Hid (Below V.heap.size V wd))
            case first =>
              cases hbr : br with
              | true =>
                have hin := of_decide_eq_true (HBR.out.trans hbr)
                obtain ⟨Ls, hLs⟩ : ∃ Ls, L ++ s = Ls := ⟨_, rfl⟩
                have hLs9 : Ls.size ≤ 20027 := by
                  have := HS.out
                  rw [← hLs, ByteArray.size_append]
                  omega
                have hsum : ¬ 9223372036854775807 < L.size + s.size := by have := HS.out; omega
                have HR3 := Lib.hid (show Ref3 Ls.data.toList k.toNat n.toNat x.toNat s.data.toList by
                  have hx := HX.out
                  refine ⟨?_, by omega, by omega, by omega⟩
                  have h5 := lay_list (k := k.toNat) (n := n.toNat) (x := x.toNat) (by omega) (by omega) (by omega)
                  rw [show ((k.toNat : Nat) : Int) = k by omega, show ((n.toNat : Nat) : Int) = n by omega, show ((x.toNat : Nat) : Int) = x by omega, HLAY.out] at h5
                  rw [← hLs, ByteArray.data_append, Array.toList_append, h5]
                  simp)
                have HRF := Lib.hid (show refV ((k.toNat : Nat) : Int) ((n.toNat : Nat) : Int) ((x.toNat : Nat) : Int) = refV k n x by
                  have hx := HX.out
                  rw [show ((k.toNat : Nat) : Int) = k by omega, show ((n.toNat : Nat) : Int) = n by omega, show ((x.toNat : Nat) : Int) = x by omega])
                have HLS := Lib.hid hLs9
                clear hin hLs9
                go_wp2_with fail
                refine (new_any Ls _).mono ?_
                rintro e w6 ⟨rfl, hrd6, hb6⟩
                have HB6 := Lib.hid (HB5.out.trans (hb6.mono HB5.out.size))
                have HRD6 := Lib.hid hrd6
                clear hrd6 hb6 e0 e1 e2 hLs hsum
                go_wp2_with fail
                refine (bread_good Ls (by have := HLS.out; omega) _ _ _ _ HR3.out _ _ HRD6.out).mono ?_
                rintro e w7 ⟨rfl, hb7⟩
                rw [HRF.out]
                have hb7' : Below V.heap.size V w7 := below_next HB6.out HB5.out.size HB6.out.size hb7
                have r8 := rfAt_new w7 k n x
                have hb8 : Below V.heap.size V (w7.alloc (.cells #[.int .i64 k, .int .i64 n, .int .u32 x] 32)) := hb7'.alloc hb7'.size _
                obtain ⟨w8, hw8⟩ : ∃ w8, w7.alloc (.cells #[.int .i64 k, .int .i64 n, .int .u32 x] 32) = w8 := ⟨_, rfl⟩
                obtain ⟨M, hM⟩ : ∃ M, w7.heap.size = M := ⟨_, rfl⟩
                rw [hw8, hM] at r8
                rw [hw8] at hb8
                have HB8 := Lib.hid hb8
                have q8 := HR.out w8 hb8
                have f0 := r8.c0
                have f1 := r8.c1
                have f2 := r8.c2
                have g0 := q8.c0
                have g1 := q8.c1
                have g2 := q8.c2
                clear hb7 hb7' hb8 r8 q8
                go_wp2_with fail
                refine (codeZ _).mono ?_
                rintro e w9 ⟨rfl, rfl⟩
                go_wp2_with fail
                go_meet
                exact HB8
              | false =>
                go_wp2_with fail
                go_meet
                exact HB5
            case rest =>
              have HB9 := hcut
              clear hcut e0 e1 e2
              go_wp2_with fail
              refine (new_any s _).mono ?_
              rintro e w10 ⟨rfl, hrd, hb⟩
              have HB10 := Lib.hid (HB9.out.trans (hb.mono HB9.out.size))
              have HRD := Lib.hid hrd
              clear hb hrd
              go_wp2_with fail
              refine (bread_any s (by have := HS.out; omega) _ _ HRD.out).mono ?_
              rintro e w11 ⟨a, b, c, ce, rfl, hce, hb⟩
              have hb11 : Below V.heap.size V w11 := HB10.out.trans (hb.mono HB9.out.size)
              obtain ⟨ev, hev⟩ : ∃ ev, errV ce = ev := ⟨_, rfl⟩
              rw [hev]
              have HCE : Hid (∀ W', EtLaid W' → Calls Tryd.prog 12 #[ev] W' fun e w' => e = .returned (.int .i64 ce) ∧ Below W'.heap.size W' w') := fun W' hW' => by rw [← hev]; exact code_err ce W' hW'
              have HCC := Lib.hid hce
              have y12 := rfAt_new w11 a b c
              have hb12 : Below V.heap.size V (w11.alloc (.cells #[.int .i64 a, .int .i64 b, .int .u32 c] 32)) := hb11.alloc hb11.size _
              obtain ⟨w12, hw12⟩ : ∃ w12, w11.alloc (.cells #[.int .i64 a, .int .i64 b, .int .u32 c] 32) = w12 := ⟨_, rfl⟩
              obtain ⟨Y, hY⟩ : ∃ Y, w11.heap.size = Y := ⟨_, rfl⟩
              rw [hw12, hY] at y12
              rw [hw12] at hb12
              have HB12 := Lib.hid hb12
              have HY12 := Lib.hid y12
              clear hev hce hb hb11 hb12 y12 HRD HB10
              go_wp2_with fail
              refine (new_good 20 (by decide) (by decide) _).mono ?_
              rintro e wn ⟨F, d, rfl, hd, hbn', _⟩
              have HBn := Lib.hid (HB12.out.trans (hbn'.mono HB12.out.size))
              have HYn := Lib.hid (HY12.out.below hbn')
              have HDn := Lib.hid hd
              have rn := HR.out wn HBn.out
              have e0 := rn.c0
              have e1 := rn.c1
              have e2 := rn.c2
              obtain ⟨bt, hbt⟩ : ∃ bt, decide (R20 k n) = bt := ⟨_, rfl⟩
              have HBTT := Lib.hid hbt
              have HRT := Lib.hid (show rt k n 20 = bt by rw [rt_R20, hbt])
              clear hd hbn' rn hbt hw12 hY HB12 HY12
              go_upto_region 17 with fail
              go_cut [12] from 103 to 125 (fun v wd => v = .bool bt ∧ wn = wd)
              case first =>
                by_cases h1 : 1 ≤ n
                · by_cases h2 : n ≤ 1280
                  · by_cases h3 : 0 ≤ k
                    · obtain ⟨q, hq⟩ : ∃ q, (n + 63) / 64 = q := ⟨_, rfl⟩
                      have hwA : IntKind.i64.wrap (n + 63) = n + 63 := IntWalk.i64_in _ (by omega)
                      have hwB : IntKind.i64.wrap (20 - q) = 20 - q := IntWalk.i64_in _ (by omega)
                      have hwC : IntKind.i64.wrap q = q := IntWalk.i64_in _ (by omega)
                      have hq2 : (n + 63).tdiv 64 = q := by rw [Int.tdiv_eq_ediv_of_nonneg (by omega), hq]
                      by_cases h4 : k ≤ 20 - q
                      · have HZ := Lib.hid (show R20 k n from ⟨⟨h1, h2⟩, h3, by rw [hq]; exact h4⟩)
                        go_wp2_with fail
                        go_meet
                        exact ⟨by rw [← HBTT.out, decide_eq_true HZ.out], rfl⟩
                      · have HZ := Lib.hid (show ¬ R20 k n from fun h => h4 (by rw [← hq]; exact h.2.2))
                        go_wp2_with fail
                        go_meet
                        exact ⟨by rw [← HBTT.out, decide_eq_false HZ.out], rfl⟩
                    · have HZ := Lib.hid (show ¬ R20 k n from fun h => h3 h.2.1)
                      go_wp2_with fail
                      go_meet
                      exact ⟨by rw [← HBTT.out, decide_eq_false HZ.out], rfl⟩
                  · have HZ := Lib.hid (show ¬ R20 k n from fun h => h2 h.1.2)
                    go_wp2_with fail
                    go_meet
                    exact ⟨by rw [← HBTT.out, decide_eq_false HZ.out], rfl⟩
                · have HZ := Lib.hid (show ¬ R20 k n from fun h => h1 h.1.1)
                  go_wp2_with fail
                  go_meet
                  exact ⟨by rw [← HBTT.out, decide_eq_false HZ.out], rfl⟩
              case rest =>
                obtain ⟨rfl, hcw⟩ := hcut
                rw [← hcw] at *
                clear hcw
                go_wp2_with fail
                refine (get_some HDn.out rfl k n x).mono ?_
                rintro e wg ⟨t, cg, rfl, hcg, hbg⟩
                obtain ⟨eg, heg⟩ : ∃ eg, errV cg = eg := ⟨_, rfl⟩
                rw [heg]
                have HCG : Hid (bt = false → ∀ W', EtLaid W' → Calls Tryd.prog 12 #[eg] W' fun e w' => e = .returned (.int .i64 1) ∧ Below W'.heap.size W' w') := fun hb W' hW' => by
                  have h1 : cg = 1 := hcg (by rw [← hb]; exact HRT.out)
                  rw [← heg, h1]
                  exact code_err 1 W' hW'
                have HBg := Lib.hid (HBn.out.trans (hbg.mono HBn.out.size))
                have HYg := Lib.hid (HYn.out.below hbg)
                clear hbg hcg heg HDn HYn e0 e1 e2
                go_wp2_with fail
                refine (bread_nil _).mono ?_
                rintro e wh ⟨rfl, hbh⟩
                have hb13a : Below wg.heap.size wg (wh.alloc (.cells #[.int .i64 0, .int .i64 0, .int .u32 0] 32)) := hbh.alloc hbh.size _
                have HB13 := Lib.hid (HBg.out.trans (hb13a.mono HBg.out.size))
                have HY13 := Lib.hid (HYg.out.below hb13a)
                have HG13 := Lib.hid (HG.out.below HG.out.lt HB13.out)
                clear hbh hb13a HYg
                rcases HCC.out with rfl | ⟨rfl, rfl, rfl, rfl⟩
                · cases hbt : bt with
                  | true =>
                    go_wp2_with fail
                    refine (HCE.out _ HG13.out).mono ?_
                    rintro e w14 ⟨rfl, hb14⟩
                    have HB14 := Lib.hid (HB13.out.trans (hb14.mono HB13.out.size))
                    have HG14 := Lib.hid (HG13.out.below HG13.out.lt hb14)
                    have y14 := HY13.out.below hb14
                    have y0 := y14.c0
                    have y1 := y14.c1
                    have y2 := y14.c2
                    have HY14 := Lib.hid y14
                    clear hb14 y14
                    have r14 := HR.out w14 HB14.out
                    have m0 := r14.c0
                    have m1 := r14.c1
                    have m2 := r14.c2
                    clear r14
                    go_wp2_with fail
                    refine (right_any _ _ _ _ (by decide) _).mono ?_
                    rintro e w16 ⟨rfl, hb16⟩
                    rw [HRT.out, hbt]
                    have HB16 := Lib.hid (HB14.out.trans (hb16.mono HB14.out.size))
                    have HG16 := Lib.hid (HG14.out.below HG14.out.lt hb16)
                    clear hb16 m0 m1 m2
                    go_wp2_with fail
                    refine (code_no 1 _ HG16.out).mono ?_
                    rintro e w18 ⟨rfl, hb18⟩
                    have HB18 := Lib.hid (HB16.out.trans (hb18.mono HB16.out.size))
                    clear hb18
                    go_wp2
                    go_ret
                    exact ⟨by simp, by have h9 := HV.out.trans (HB18.out.mono (by have := HVS.out; omega)); rwa [← hN] at h9⟩
                  | false =>
                    go_wp2_with fail
                    refine (HCE.out _ HG13.out).mono ?_
                    rintro e w14 ⟨rfl, hb14⟩
                    have HB14 := Lib.hid (HB13.out.trans (hb14.mono HB13.out.size))
                    have HG14 := Lib.hid (HG13.out.below HG13.out.lt hb14)
                    have y14 := HY13.out.below hb14
                    have y0 := y14.c0
                    have y1 := y14.c1
                    have y2 := y14.c2
                    have HY14 := Lib.hid y14
                    clear hb14 y14
                    have r14 := HR.out w14 HB14.out
                    have m0 := r14.c0
                    have m1 := r14.c1
                    have m2 := r14.c2
                    clear r14
                    go_wp2_with fail
                    refine (right_any _ _ _ _ (by decide) _).mono ?_
                    rintro e w16 ⟨rfl, hb16⟩
                    rw [HRT.out, hbt]
                    have HB16 := Lib.hid (HB14.out.trans (hb16.mono HB14.out.size))
                    have HG16 := Lib.hid (HG14.out.below HG14.out.lt hb16)
                    clear hb16 m0 m1 m2
                    go_wp2_with fail
                    refine (HCG.out hbt _ HG16.out).mono ?_
                    rintro e w17 ⟨rfl, hb17⟩
                    have HB17 := Lib.hid (HB16.out.trans (hb17.mono HB16.out.size))
                    have HG17 := Lib.hid (HG16.out.below HG16.out.lt hb17)
                    clear hb17
                    go_wp2_with fail
                    refine (code_no 1 _ HG17.out).mono ?_
                    rintro e w18 ⟨rfl, hb18⟩
                    have HB18 := Lib.hid (HB17.out.trans (hb18.mono HB17.out.size))
                    clear hb18
                    go_wp2
                    go_ret
                    exact ⟨by simp, by have h9 := HV.out.trans (HB18.out.mono (by have := HVS.out; omega)); rwa [← hN] at h9⟩
                · cases hbt : bt with
                  | true =>
                    go_wp2_with fail
                    refine (HCE.out _ HG13.out).mono ?_
                    rintro e w14 ⟨rfl, hb14⟩
                    have HB14 := Lib.hid (HB13.out.trans (hb14.mono HB13.out.size))
                    have HG14 := Lib.hid (HG13.out.below HG13.out.lt hb14)
                    have y14 := HY13.out.below hb14
                    have y0 := y14.c0
                    have y1 := y14.c1
                    have y2 := y14.c2
                    have HY14 := Lib.hid y14
                    clear hb14 y14
                    go_wp2_with fail
                    refine (HCE.out _ HG14.out).mono ?_
                    rintro e w15 ⟨rfl, hb15⟩
                    have HB15 := Lib.hid (HB14.out.trans (hb15.mono HB14.out.size))
                    have HG15 := Lib.hid (HG14.out.below HG14.out.lt hb15)
                    have y15 := HY14.out.below hb15
                    have z0 := y15.c0
                    have z1 := y15.c1
                    have z2 := y15.c2
                    clear hb15 y15 y0 y1 y2
                    have r15 := HR.out w15 HB15.out
                    have m0 := r15.c0
                    have m1 := r15.c1
                    have m2 := r15.c2
                    clear r15
                    go_wp2_with fail
                    refine (right_any _ _ _ _ (by decide) _).mono ?_
                    rintro e w16 ⟨rfl, hb16⟩
                    rw [HRT.out, hbt]
                    have HB16 := Lib.hid (HB15.out.trans (hb16.mono HB15.out.size))
                    have HG16 := Lib.hid (HG15.out.below HG15.out.lt hb16)
                    clear hb16 m0 m1 m2
                    go_wp2_with fail
                    refine (code_no 1 _ HG16.out).mono ?_
                    rintro e w18 ⟨rfl, hb18⟩
                    have HB18 := Lib.hid (HB16.out.trans (hb18.mono HB16.out.size))
                    clear hb18
                    go_wp2
                    go_ret
                    exact ⟨by simp, by have h9 := HV.out.trans (HB18.out.mono (by have := HVS.out; omega)); rwa [← hN] at h9⟩
                  | false =>
                    go_wp2_with fail
                    refine (HCE.out _ HG13.out).mono ?_
                    rintro e w14 ⟨rfl, hb14⟩
                    have HB14 := Lib.hid (HB13.out.trans (hb14.mono HB13.out.size))
                    have HG14 := Lib.hid (HG13.out.below HG13.out.lt hb14)
                    have y14 := HY13.out.below hb14
                    have y0 := y14.c0
                    have y1 := y14.c1
                    have y2 := y14.c2
                    have HY14 := Lib.hid y14
                    clear hb14 y14
                    go_wp2_with fail
                    refine (HCE.out _ HG14.out).mono ?_
                    rintro e w15 ⟨rfl, hb15⟩
                    have HB15 := Lib.hid (HB14.out.trans (hb15.mono HB14.out.size))
                    have HG15 := Lib.hid (HG14.out.below HG14.out.lt hb15)
                    have y15 := HY14.out.below hb15
                    have z0 := y15.c0
                    have z1 := y15.c1
                    have z2 := y15.c2
                    clear hb15 y15 y0 y1 y2
                    have r15 := HR.out w15 HB15.out
                    have m0 := r15.c0
                    have m1 := r15.c1
                    have m2 := r15.c2
                    clear r15
                    go_wp2_with fail
                    refine (right_any _ _ _ _ (by decide) _).mono ?_
                    rintro e w16 ⟨rfl, hb16⟩
                    rw [HRT.out, hbt]
                    have HB16 := Lib.hid (HB15.out.trans (hb16.mono HB15.out.size))
                    have HG16 := Lib.hid (HG15.out.below HG15.out.lt hb16)
                    clear hb16 m0 m1 m2
                    go_wp2_with fail
                    refine (HCG.out hbt _ HG16.out).mono ?_
                    rintro e w17 ⟨rfl, hb17⟩
                    have HB17 := Lib.hid (HB16.out.trans (hb17.mono HB16.out.size))
                    have HG17 := Lib.hid (HG16.out.below HG16.out.lt hb17)
                    clear hb17
                    go_wp2_with fail
                    refine (code_no 1 _ HG17.out).mono ?_
                    rintro e w18 ⟨rfl, hb18⟩
                    have HB18 := Lib.hid (HB17.out.trans (hb18.mono HB17.out.size))
                    clear hb18
                    go_wp2
                    go_ret
                    exact ⟨by simp, by have h9 := HV.out.trans (HB18.out.mono (by have := HVS.out; omega)); rwa [← hN] at h9⟩
end Go.Proofs.YtpimclhdimcioaaDoor

namespace Go.Proofs.YtpimclhdimcioaaDoor
open Go.RowKit

theorem refs_any (k n x : Int) (s : ByteArray) (W : World) (hx : 0 ≤ x ∧ x ≤ 4294967295) (hg : EtLaid W) :
    Calls Tryd.prog 5 #[refV k n x, .string s] W fun e w' => e = .returned (.bool true) ∧ Below W.heap.size W w' := by
  by_cases h : (20000 : Int) < (s.size : Int)
  · exact refs_long k n x s h W
  · exact refs_good k n x hx.1 (by omega) s h W hg
end Go.Proofs.YtpimclhdimcioaaDoor
