/-
  The law EntryOnly, walked: for every text it returns true and changes nothing that was there. Condition: errorType holds error's type.
-/
import Derived.Test.YtdpgdnofiepkoaaDoorS8Awake
namespace Go.Proofs.YtdpgdnofiepkoaaDoor
open Go.RowKit

set_option maxRecDepth 10000 in
set_option maxHeartbeats 1000000 in
theorem only8_long (s : ByteArray) (h : (600 : Int) < (s.size : Int)) (W : World) :
    Calls Tryd.prog 4 #[.string s] W fun e w' => e = .returned (.bool true) ∧ Below W.heap.size W w' := by
  go_enter Tryd.func4, Tryd.ntmps4
  go_wp2_with fail
  refine (awake8 _).mono ?_
  rintro e w1 ⟨rfl, hb1⟩
  have HB1 := Lib.hid hb1
  clear hb1
  go_wp2_with fail
  refine (awake8 _).mono ?_
  rintro e w2 ⟨rfl, hb2⟩
  have HB2 := Lib.hid (HB1.out.trans (hb2.mono HB1.out.size))
  clear hb2
  go_wp2
  go_ret
  exact ⟨rfl, HB2.out⟩
set_option maxRecDepth 10000 in
set_option maxHeartbeats 2000000 in
theorem only8_short (s : ByteArray) (h : ¬ (600 : Int) < (s.size : Int)) (W : World) (hg : EtLaid W) :
    Calls Tryd.prog 4 #[.string s] W fun e w' => e = .returned (.bool true) ∧ Below W.heap.size W w' := by
  have HG := Lib.hid hg
  have HZ := Lib.hid (show s.size ≤ 100000 by omega)
  clear hg
  go_enter Tryd.func4, Tryd.ntmps4
  go_wp2_with fail
  refine (awake8 _).mono ?_
  rintro e w1 ⟨rfl, hb1⟩
  have HB1 := Lib.hid hb1
  clear hb1
  go_wp2_with fail
  refine (new_any s _).mono ?_
  rintro e w2 ⟨rfl, hrd2, hb2⟩
  have HB2 := Lib.hid (HB1.out.trans (hb2.mono HB1.out.size))
  have HRD2 := Lib.hid hrd2
  obtain ⟨M, hM⟩ : ∃ M, w1.heap.size = M := ⟨_, rfl⟩
  have HM := Lib.hid (show W.heap.size ≤ M by rw [← hM]; exact HB1.out.size)
  rw [hM] at HRD2 ⊢
  clear hb2 hrd2 hM
  go_wp2_with fail
  refine (read8 s HZ.out _ _ HRD2.out).mono ?_
  rintro e w3 ⟨⟨x, m, y, rest, hen, rfl, hrd3⟩ | ⟨_, rfl⟩, hb3⟩
  · have HB3 := Lib.hid (HB2.out.trans (hb3.mono HM.out))
    have HRD3 := Lib.hid hrd3
    have HL := Lib.hid (fun X => lay8_good x m y hen.2 X)
    obtain ⟨L, hL⟩ : ∃ L, layE x m y = L := ⟨_, rfl⟩
    have hl := hen.1
    rw [hL] at hl
    have hlen := congrArg List.length hl
    rw [List.length_append, ← Lib.size_eq, ← Lib.size_eq] at hlen
    have hw : IntKind.i64.wrap ((s.size : Int) - (rest.length : Int)) = (L.size : Int) := by
      rw [show (s.size : Int) - (rest.length : Int) = (L.size : Int) by omega]
      exact IntWalk.i64_in _ (by omega)
    have hle : (L.size : Int) ≤ (s.size : Int) := by omega
    have hle2 : L.size ≤ s.size := by omega
    have hex : s.extract 0 L.size = L := by
      apply ba_ext
      rw [Lib.extract_data, List.drop_zero, hl, Nat.sub_zero, Lib.size_eq, List.take_left]
    have HLL := Lib.hid hL
    have hb4 : Below w3.heap.size w3 (w3.alloc (.cells #[.string x, .int .i64 (m : Int), .string y] 23)) := (Below.refl _ _).alloc (Nat.le_refl _) _
    have q4 := enAt_new w3 x (m : Int) y
    obtain ⟨w4, hw4⟩ : ∃ w4, w3.alloc (.cells #[.string x, .int .i64 (m : Int), .string y] 23) = w4 := ⟨_, rfl⟩
    obtain ⟨Y, hY⟩ : ∃ Y, w3.heap.size = Y := ⟨_, rfl⟩
    rw [hw4] at hb4 q4
    rw [hY] at q4
    have HB4 := Lib.hid (HB3.out.trans (hb4.mono HB3.out.size))
    have HRD4 := Lib.hid (HRD3.out.below hb4)
    have c0 := q4.c0
    have c1 := q4.c1
    have c2 := q4.c2
    clear hen hrd3 hb3 hb4 q4 hl hlen hL
    go_wp2_with fail
    refine (code_zero _).mono ?_
    rintro e w5 ⟨rfl, rfl⟩
    clear hw4 hY
    go_wp2_with fail
    refine (HL.out _).mono ?_
    rintro e w5 ⟨rfl, hb5⟩
    rw [HLL.out]
    have HB5 := Lib.hid (HB4.out.trans (hb5.mono HB4.out.size))
    have HRD5 := Lib.hid (HRD4.out.below hb5)
    clear hb5 c0 c1 c2
    go_wp2_with fail
    refine (code_zero _).mono ?_
    rintro e w6 ⟨rfl, rfl⟩
    go_wp2_with fail
    refine (left_any _ _ _ HRD5.out).mono ?_
    rintro e w6 ⟨rfl, rfl⟩
    rw [bs_size]
    go_wp2
    go_ret
    exact ⟨by first | rfl | (simp; done), HB5.out⟩
  · have HB3 := Lib.hid (HB2.out.trans (hb3.mono HM.out))
    have hb4 : Below w3.heap.size w3 (w3.alloc (.cells #[.string ⟨#[]⟩, .int .i64 0, .string ⟨#[]⟩] 23)) := (Below.refl _ _).alloc (Nat.le_refl _) _
    have HQ4 := Lib.hid (enAt_new w3 ⟨#[]⟩ 0 ⟨#[]⟩)
    have HB4 := Lib.hid (HB3.out.trans (hb4.mono HB3.out.size))
    clear hb3 hb4
    go_wp2_with fail
    refine (code_no 13 _ (HG.out.below HG.out.lt HB4.out)).mono ?_
    rintro e w5 ⟨rfl, hb5⟩
    have HB5 := Lib.hid (HB4.out.trans (hb5.mono HB4.out.size))
    have HQ5 := Lib.hid (HQ4.out.below hb5)
    clear hb5
    go_wp2_with fail
    refine (code_no 13 _ (HG.out.below HG.out.lt HB5.out)).mono ?_
    rintro e w6 ⟨rfl, hb6⟩
    have HB6 := Lib.hid (HB5.out.trans (hb6.mono HB5.out.size))
    have q6 := HQ5.out.below hb6
    have c0 := q6.c0
    have c1 := q6.c1
    have c2 := q6.c2
    clear hb6 q6
    go_wp2
    go_ret
    exact ⟨by first | rfl | (simp; done), HB6.out⟩
theorem only8_any (s : ByteArray) (W : World) (hg : EtLaid W) :
    Calls Tryd.prog 4 #[.string s] W fun e w' => e = .returned (.bool true) ∧ Below W.heap.size W w' := by
  by_cases h : (600 : Int) < (s.size : Int)
  · exact only8_long s h W
  · exact only8_short s h W hg
end Go.Proofs.YtdpgdnofiepkoaaDoor
