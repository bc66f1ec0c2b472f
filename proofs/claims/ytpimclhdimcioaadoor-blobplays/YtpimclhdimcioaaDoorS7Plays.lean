/-
  The law BlobPlays, walked where nothing is put: of a text of another size, and of a run that does not lie on the disk. Condition: errorType holds error's type.
-/
import Derived.Test.YtpimclhdimcioaaDoorS7Law
import Derived.Test.YtpimclhdimcioaaDoorS7Awake
import Derived.Test.YtpimclhdimcioaaDoorS7Ref
namespace Go.Proofs.YtpimclhdimcioaaDoor
open Go.RowKit Go.Maps

set_option maxRecDepth 10000 in
set_option maxHeartbeats 1000000 in
theorem plays_long (s : ByteArray) (k : Int) (h : (20000 : Int) < (s.size : Int)) (W : World) :
    Calls Tryd.prog 4 #[.string s, .int .i64 k] W fun e w' => e = .returned (.bool true) ∧ Below W.heap.size W w' := by
  go_enter Tryd.func4, Tryd.ntmps4
  go_wp2_with fail
  refine (awake7 _).mono ?_
  rintro e w1 ⟨rfl, hb⟩
  have HB := Lib.hid hb
  clear hb
  go_wp2_with fail
  refine (awake7 _).mono ?_
  rintro e w2 ⟨rfl, hb⟩
  have HB2 := Lib.hid (HB.out.trans (hb.mono HB.out.size))
  clear hb
  go_wp2
  go_ret
  exact ⟨rfl, HB2.out⟩
set_option maxRecDepth 10000 in
set_option maxHeartbeats 1000000 in
theorem plays_size (s : ByteArray) (k : Int) (h : ((s.size : Int) < 1) ∨ (¬ (s.size : Int) < 1 ∧ (16384 : Int) < (s.size : Int))) (hz : ¬ (20000 : Int) < (s.size : Int)) (W : World) (hg : EtLaid W) :
    Calls Tryd.prog 4 #[.string s, .int .i64 k] W fun e w' => e = .returned (.bool true) ∧ Below W.heap.size W w' := by
  have HG := Lib.hid hg
  have HBT := Lib.hid hg.lt
  have HZ := Lib.hid (show s.size ≤ 20000 by omega)
  have HBD := Lib.hid (show s.size < 1 ∨ 16384 < s.size by omega)
  have HP := Lib.hid (show pgs (s.size : Int) = 0 from if_pos (by omega))
  clear hg
  rcases h with h | ⟨h1, h⟩
  all_goals
    go_enter Tryd.func4, Tryd.ntmps4
    go_wp2_with fail
    refine (awake7 _).mono ?_
    rintro e w1 ⟨rfl, hb1⟩
    have HB1 := Lib.hid hb1
    have HG1 := Lib.hid (HG.out.below HBT.out hb1)
    clear hb1
    go_wp2_with fail
    refine (ses_new (W := W) (B := W.heap.size) 60 (by decide) (by decide) HB1.out (Nat.le_refl _) HG1.out).mono ?_
    rintro e w2 ⟨b, F2, rfl, hs2, _, _⟩
    rw [show errV 0 = .nilIface from rfl]
    have HS2 := Lib.hid hs2
    clear hs2
    go_wp2_with fail
    refine (put_size _ _ s HBD.out _).mono ?_
    rintro e w3 ⟨rfl, hb3⟩
    have hs3 := HS2.out.keep hb3
    have hx3 := hs3.box (.cells #[.int .i64 0, .int .i64 0, .int .u32 0] 32)
    have r4 := rfAt_new w3 0 0 0
    have HS4 := Lib.hid hx3.1
    have HR4 := Lib.hid r4
    clear hb3 hs3 hx3 r4 HS2
    go_wp2_with fail
    refine (rpages_any s HZ.out _).mono ?_
    rintro e w5 ⟨v, rfl, _, hb5⟩
    have hs5 := HS4.out.keep hb5
    have r5 := HR4.out.below hb5
    have HS5 := Lib.hid hs5
    have HR5 := Lib.hid r5
    clear hb5 hs5 r5 HS4 HR4
    go_wp2_with fail
    refine (code_no 15 _ HS5.out.et).mono ?_
    rintro e w6 ⟨rfl, hb6⟩
    have r6 := HR5.out.below hb6
    have HS6 := Lib.hid (HS5.out.keep hb6)
    have c0 := r6.c0
    have c1 := r6.c1
    have c2 := r6.c2
    clear hb6 r6 HS5 HR5
    go_wp2_with fail
    refine (pages_any _ _).mono ?_
    rintro e w7 ⟨rfl, rfl⟩
    rw [HP.out]
    go_wp2
    go_ret
    exact ⟨by simp, HS6.out.below⟩
set_option maxRecDepth 10000 in
set_option maxHeartbeats 1000000 in
theorem plays_arg (s : ByteArray) (k : Int) (np : Nat) (hnp : npg s.size = np) (h1 : 1 ≤ s.size) (h2 : s.size ≤ 16384) (h : k < 0 ∨ (¬ k < 0 ∧ (60 : Int) < (np : Int)) ∨ (¬ k < 0 ∧ ¬ (60 : Int) < (np : Int) ∧ 60 - (np : Int) < k)) (W : World) (hg : EtLaid W) :
    Calls Tryd.prog 4 #[.string s, .int .i64 k] W fun e w' => e = .returned (.bool true) ∧ Below W.heap.size W w' := by
  have HG := Lib.hid hg
  have HBT := Lib.hid hg.lt
  have HZ := Lib.hid (show s.size ≤ 20000 by omega)
  have hp : pgs (s.size : Int) = (np : Int) := by rw [pgs_nat h1 h2, hnp]
  have hnb : np ≤ 256 := by have := pgs_bd (s.size : Int); rw [hp] at this; omega
  have hn1 : 1 ≤ np := by rw [← hnp]; exact npg_pos h1
  have HRT := Lib.hid (show rt k (s.size : Int) 60 = false by
    unfold rt
    rw [hp]
    simp
    omega)
  have H1 := Lib.hid h1
  have H2 := Lib.hid h2
  have HN1 := Lib.hid hn1
  have HNP := Lib.hid hnp
  have hw : IntKind.i64.wrap (60 - (np : Int)) = 60 - (np : Int) := IntWalk.i64_in _ (by omega)
  have hA1 : ¬ (s.size : Int) < 1 := by omega
  have hA2 : ¬ (16384 : Int) < (s.size : Int) := by omega
  have hA3 : ¬ (20000 : Int) < (s.size : Int) := by omega
  clear hg h1 h2 hnp hp hnb hn1
  rcases h with h | ⟨h4, h⟩ | ⟨h4, h5, h⟩
  all_goals
    go_enter Tryd.func4, Tryd.ntmps4
    go_wp2_with fail
    refine (awake7 _).mono ?_
    rintro e w1 ⟨rfl, hb1⟩
    have HB1 := Lib.hid hb1
    have HG1 := Lib.hid (HG.out.below HBT.out hb1)
    clear hb1
    go_wp2_with fail
    refine (ses_new (W := W) (B := W.heap.size) 60 (by decide) (by decide) HB1.out (Nat.le_refl _) HG1.out).mono ?_
    rintro e w2 ⟨b, F2, rfl, hs2, _, _⟩
    rw [show errV 0 = .nilIface from rfl]
    have HS2 := Lib.hid hs2
    clear hs2
    go_wp2_with fail
    refine (put_arg _ 60 (by decide) _ s H1.out H2.out HRT.out _ (fun w1 hb => sizeIs_dsk (HS2.out.dsk.below hb))).mono ?_
    rintro e w3 ⟨rfl, hb3⟩
    have hs3 := HS2.out.keep hb3
    have hx3 := hs3.box (.cells #[.int .i64 0, .int .i64 0, .int .u32 0] 32)
    have r4 := rfAt_new w3 0 0 0
    have HS4 := Lib.hid hx3.1
    have HR4 := Lib.hid r4
    clear hb3 hs3 hx3 r4 HS2
    go_wp2_with fail
    refine (rpages_any s HZ.out _).mono ?_
    rintro e w5 ⟨v, rfl, ho5, hb5⟩
    rw [HNP.out] at ho5
    obtain ⟨g, cap, hv⟩ := owns_cons7 ho5 (by have := HN1.out; omega)
    subst hv
    have hs5 := HS4.out.keep hb5
    have r5 := HR4.out.below hb5
    have HS5 := Lib.hid hs5
    have HR5 := Lib.hid r5
    clear hb5 hs5 r5 HS4 HR4 ho5
    go_wp2_with fail
    refine (code_no 1 _ HS5.out.et).mono ?_
    rintro e w6 ⟨rfl, hb6⟩
    have r6 := HR5.out.below hb6
    have HS6 := Lib.hid (HS5.out.keep hb6)
    have c0 := r6.c0
    have c1 := r6.c1
    have c2 := r6.c2
    clear hb6 r6 HS5 HR5
    go_wp2_with fail
    refine (soft_any HS6.out.dsk).mono ?_
    rintro e w7 ⟨rfl, rfl⟩
    rw [show (((DskV.fresh 60).soft.length : Nat) : Int) = 0 from rfl]
    go_wp2
    go_ret
    exact ⟨by simp, HS6.out.below⟩
end Go.Proofs.YtpimclhdimcioaaDoor
