/-
  PathParents walked: for every two texts it returns true and changes nothing that was there. Condition: errorType holds error's type.
-/
import Derived.Test.YtpbkjijdilkkcaaDoorS3Order
namespace Go.Proofs.YtpbkjijdilkkcaaDoor
open Go.RowKit

theorem code_err (n : Int) (v : Value) (w : World) (h : IsErr w n v) (hg : EtLaid w) : Calls Tryd.prog 10 #[v] w fun e w' => e = .returned (.int .i64 n) ∧ Below w.heap.size w w' := by
  obtain ⟨l, hl⟩ := h
  exact code_chain l n v w hl hg
theorem IsErr.below {w w' : World} {n : Int} {v : Value} (h : IsErr w n v) (hb : Below w.heap.size w w') : IsErr w' n v := by
  obtain ⟨l, hl⟩ := h
  exact ⟨l, hl.below hb⟩
theorem IsErr.iface {w : World} {n : Int} {v : Value} (h : IsErr w n v) : ∃ u y, v = .iface u y := by
  obtain ⟨l, hl⟩ := h
  exact hl.iface

set_option maxHeartbeats 2000000 in
theorem parents_long (p q : ByteArray) (hl : 200 < p.size ∨ 200 < q.size) (w : World) :
    Calls Tryd.prog 4 #[.string p, .string q] w fun e w' => e = .returned (.bool true) ∧ Below w.heap.size w w' := by
  have HL := Lib.hid hl
  clear hl
  go_enter Tryd.func4, Tryd.ntmps4
  go_wp2_with fail
  refine (awake_any _).mono ?_
  rintro e w1 ⟨rfl, hb⟩
  have HB1 := Lib.hid hb
  clear hb
  by_cases h1 : (200 : Int) < (p.size : Int)
  · go_wp2_with fail
    refine (awake_any _).mono ?_
    rintro e w2 ⟨rfl, hb⟩
    have HB2 := Lib.hid (HB1.out.trans (hb.mono HB1.out.size))
    clear hb
    go_wp2
    go_ret
    exact ⟨rfl, HB2.out⟩
  · have h3 : (200 : Int) < (q.size : Int) := by have := HL.out; omega
    go_wp2_with fail
    refine (awake_any _).mono ?_
    rintro e w2 ⟨rfl, hb⟩
    have HB2 := Lib.hid (HB1.out.trans (hb.mono HB1.out.size))
    clear hb
    go_wp2
    go_ret
    exact ⟨rfl, HB2.out⟩

set_option maxHeartbeats 4000000 in
theorem parents_bad (p q : ByteArray) (h1 : p.size ≤ 200) (h2 : q.size ≤ 200) (hP : ¬ isP p.data.toList) (w : World) (hg : EtLaid w) :
    Calls Tryd.prog 4 #[.string p, .string q] w fun e w' => e = .returned (.bool true) ∧ Below w.heap.size w w' := by
  have l1 : ¬ (200 : Int) < (p.size : Int) := by omega
  have l2 : ¬ (200 : Int) < (q.size : Int) := by omega
  have HZ := Lib.hid (show p.size ≤ 9223372036854775807 by omega)
  have hs : (p.toList == [47]) = false := by
    rw [eq_slash, decide_eq_false_iff_not]
    intro e
    exact hP (by rw [e]; decide)
  have HD := Lib.hid (dp_neg hP)
  have HP := Lib.hid hP
  have HG := Lib.hid hg
  clear h1 h2 hP hg
  go_enter Tryd.func4, Tryd.ntmps4
  go_wp2_with fail
  refine (awake_any _).mono ?_
  rintro e w1 ⟨rfl, hb⟩
  have HB1 := Lib.hid hb
  clear hb
  go_wp2_with fail
  refine (parent_bad p HZ.out HP.out w1).mono ?_
  rintro e w2 ⟨er, rfl, he, hb⟩
  have HB2 := Lib.hid (HB1.out.trans (hb.mono HB1.out.size))
  have HE := Lib.hid he
  obtain ⟨u, y, rfl⟩ := he.iface
  clear hb he
  go_wp2_with fail
  refine (code_err 2 _ w2 HE.out (HG.out.below HG.out.lt HB2.out)).mono ?_
  rintro e w3 ⟨rfl, hb⟩
  have HB3 := Lib.hid (HB2.out.trans (hb.mono HB2.out.size))
  have HE3 := Lib.hid (HE.out.below hb)
  clear hb
  go_wp2_with fail
  refine (code_err 2 _ w3 HE3.out (HG.out.below HG.out.lt HB3.out)).mono ?_
  rintro e w4 ⟨rfl, hb⟩
  have HB4 := Lib.hid (HB3.out.trans (hb.mono HB3.out.size))
  clear hb
  go_wp2_with fail
  refine (deep_any p HZ.out w4).mono ?_
  rintro e w5 ⟨rfl, hb⟩
  have HB5 := Lib.hid (HB4.out.trans (hb.mono HB4.out.size))
  clear hb
  rw [HD.out]
  go_wp2
  go_ret
  exact ⟨rfl, HB5.out⟩

set_option maxHeartbeats 4000000 in
theorem parents_root (q : ByteArray) (h2 : q.size ≤ 200) (w : World) (hg : EtLaid w) :
    Calls Tryd.prog 4 #[.string ⟨#[47]⟩, .string q] w fun e w' => e = .returned (.bool true) ∧ Below w.heap.size w w' := by
  have l2 : ¬ (200 : Int) < (q.size : Int) := by omega
  have HG := Lib.hid hg
  clear h2 hg
  go_enter Tryd.func4, Tryd.ntmps4
  go_wp2_with fail
  refine (awake_any _).mono ?_
  rintro e w1 ⟨rfl, hb⟩
  have HB1 := Lib.hid hb
  clear hb
  go_wp2_with fail
  refine (parent_root w1).mono ?_
  rintro e w2 ⟨er, rfl, he, hb⟩
  have HB2 := Lib.hid (HB1.out.trans (hb.mono HB1.out.size))
  have HE := Lib.hid he
  obtain ⟨u, y, rfl⟩ := he.iface
  clear hb he
  go_wp2_with fail
  refine (code_err 1 _ w2 HE.out (HG.out.below HG.out.lt HB2.out)).mono ?_
  rintro e w3 ⟨rfl, hb⟩
  have HB3 := Lib.hid (HB2.out.trans (hb.mono HB2.out.size))
  have HE3 := Lib.hid (HE.out.below hb)
  clear hb
  go_wp2_with fail
  refine (code_err 1 _ w3 HE3.out (HG.out.below HG.out.lt HB3.out)).mono ?_
  rintro e w4 ⟨rfl, hb⟩
  have HB4 := Lib.hid (HB3.out.trans (hb.mono HB3.out.size))
  clear hb
  go_wp2
  go_ret
  exact ⟨rfl, HB4.out⟩

set_option maxHeartbeats 8000000 in
theorem parents_good (p q : ByteArray) (h2 : q.size ≤ 200) (hP : isP p.data.toList) (hne : p.data.toList ≠ [47]) (w : World) :
    Calls Tryd.prog 4 #[.string p, .string q] w fun e w' => e = .returned (.bool true) ∧ Below w.heap.size w w' := by
  have h1 := isP_len hP
  rw [← Lib.size_eq] at h1
  have l1 : ¬ (200 : Int) < (p.size : Int) := by omega
  have l2 : ¬ (200 : Int) < (q.size : Int) := by omega
  obtain ⟨ms, x, hm, hx, hpm, hpe⟩ := par hP hne
  have hd := isP_pth hm
  have hpd : pcs (pth ms) = ms := pcs_pth hm.2
  have hdl := isP_len hd
  have u1 : und p.data.toList (pth ms) = true := by rw [und_parent hP hm hpm]; simp
  have u2 : und p.data.toList p.data.toList = false := und_self _
  have u3 : und (pth ms) p.data.toList = false := by
    rw [Bool.eq_false_iff]
    intro h
    have := (und_longer h).2
    have := (und_longer u1).2
    omega
  have d1 : dp p.data.toList = (ms.length : Int) + 1 := by rw [dp_pos hP, hpm]; simp
  have d2 : dp (pth ms) = (ms.length : Int) := by rw [dp_pos hd, hpd]
  have uq := und_parent (q := q.data.toList) hP hm hpm
  have hms := hm.1
  have H : ∀ w1, Calls Tryd.prog 12 #[.string p] w1 fun e w' => ∃ n, e = .returned (.tuple #[.string (bs (pth ms)), .string n, .nilIface]) ∧ n.data.toList = x ∧ Below w1.heap.size w1 w' := fun w1 =>
    (parent_good p ms x hP hx hpe hne w1).mono fun e w' ⟨d, n, he, hd1, hn, hb⟩ => ⟨n, by rw [he, of_data hd1]; rfl, hn, hb⟩
  obtain ⟨D, hD⟩ : ∃ D, bs (pth ms) = D := ⟨_, rfl⟩
  have hDl : D.data.toList = pth ms := by rw [← hD]; rfl
  have hDs : D.size ≤ 54 := by rw [Lib.size_eq, hDl]; exact hdl
  rw [hD] at H
  rw [← hDl] at u1 u3 d2 uq
  obtain ⟨M, hM⟩ : ∃ M : Nat, ms.length = M := ⟨_, rfl⟩
  rw [hM] at d1 d2 hms
  have HH := Lib.hid H
  have HZ1 := Lib.hid h1
  have HZ2 := Lib.hid h2
  have HZ3 := Lib.hid hDs
  have U1 := Lib.hid u1
  have U2 := Lib.hid u2
  have U3 := Lib.hid u3
  have D1 := Lib.hid d1
  have D2 := Lib.hid d2
  have UQ := Lib.hid uq
  have HX := Lib.hid hx
  have hw : IntKind.i64.wrap ((M : Int) + 1 - 1) = (M : Int) := by rw [IntWalk.i64_in _ (by omega)]; omega
  clear H h1 h2 hDs u1 u2 u3 d1 d2 uq hx hP hne hm hpm hpe hd hpd hdl hD hDl hM
  go_enter Tryd.func4, Tryd.ntmps4
  go_wp2_with fail
  refine (awake_any _).mono ?_
  rintro e w1 ⟨rfl, hb⟩
  have HB1 := Lib.hid hb
  clear hb
  go_wp2_with fail
  refine (HH.out w1).mono ?_
  rintro e w2 ⟨n, rfl, hn, hb⟩
  have HB2 := Lib.hid (HB1.out.trans (hb.mono HB1.out.size))
  have HN := Lib.hid hn
  clear hb hn
  go_wp2_with fail
  refine (code_nil w2).mono ?_
  rintro e w3 ⟨rfl, rfl⟩
  go_wp2_with fail
  refine (under_any p D (Nat.le_trans HZ1.out (by omega)) (Nat.le_trans HZ3.out (by omega)) w2).mono ?_
  rintro e w4 ⟨rfl, hb⟩
  have HB4 := Lib.hid (HB2.out.trans (hb.mono HB2.out.size))
  clear hb
  rw [U1.out]
  go_wp2_with fail
  refine (deep_any D (Nat.le_trans HZ3.out (by omega)) w4).mono ?_
  rintro e w5 ⟨rfl, hb⟩
  have HB5 := Lib.hid (HB4.out.trans (hb.mono HB4.out.size))
  clear hb
  rw [D2.out]
  go_wp2_with fail
  refine (deep_any p (Nat.le_trans HZ1.out (by omega)) w5).mono ?_
  rintro e w6 ⟨rfl, hb⟩
  have HB6 := Lib.hid (HB5.out.trans (hb.mono HB5.out.size))
  clear hb
  rw [D1.out]
  go_wp2_with fail
  refine (name_any n w6).mono ?_
  rintro e w7 ⟨rfl, hb⟩
  have HB7 := Lib.hid (HB6.out.trans (hb.mono HB6.out.size))
  clear hb
  rw [HN.out, HX.out]
  go_wp2_with fail
  refine (under_any p p (Nat.le_trans HZ1.out (by omega)) (Nat.le_trans HZ1.out (by omega)) w7).mono ?_
  rintro e w8 ⟨rfl, hb⟩
  have HB8 := Lib.hid (HB7.out.trans (hb.mono HB7.out.size))
  clear hb
  rw [U2.out]
  go_wp2_with fail
  refine (under_any D p (Nat.le_trans HZ3.out (by omega)) (Nat.le_trans HZ1.out (by omega)) w8).mono ?_
  rintro e w9 ⟨rfl, hb⟩
  have HB9 := Lib.hid (HB8.out.trans (hb.mono HB8.out.size))
  clear hb
  rw [U3.out]
  go_wp2_with fail
  refine (under_any p q (Nat.le_trans HZ1.out (by omega)) (Nat.le_trans HZ2.out (by omega)) w9).mono ?_
  rintro e w10 ⟨rfl, hb⟩
  have HB10 := Lib.hid (HB9.out.trans (hb.mono HB9.out.size))
  clear hb
  rw [UQ.out]
  cases hqd : (q.toList == D.toList) with
  | true =>
    have e1 : decide (q.data.toList = D.data.toList) = true := by
      rw [Lib.toList_data, Lib.toList_data] at hqd
      simpa using hqd
    rw [e1, Bool.true_or]
    go_wp2
    go_ret
    exact ⟨rfl, HB10.out⟩
  | false =>
    have e1 : decide (q.data.toList = D.data.toList) = false := by
      rw [Lib.toList_data, Lib.toList_data] at hqd
      simpa using hqd
    rw [e1, Bool.false_or]
    go_wp2_with fail
    refine (under_any D q (Nat.le_trans HZ3.out (by omega)) (Nat.le_trans HZ2.out (by omega)) w10).mono ?_
    rintro e w11 ⟨rfl, hb⟩
    have HB11 := Lib.hid (HB10.out.trans (hb.mono HB10.out.size))
    clear hb
    go_wp2
    go_ret
    exact ⟨by simp, HB11.out⟩

theorem parents_any (p q : ByteArray) (w : World) (hg : EtLaid w) : Calls Tryd.prog 4 #[.string p, .string q] w fun e w' => e = .returned (.bool true) ∧ Below w.heap.size w w' := by
  by_cases h : 200 < p.size ∨ 200 < q.size
  · exact parents_long p q h w
  · by_cases hP : isP p.data.toList
    · by_cases h47 : p.data.toList = [47]
      · obtain rfl := of_data h47
        exact parents_root q (by omega) w hg
      · exact parents_good p q (by omega) hP h47 w
    · exact parents_bad p q (by omega) (by omega) hP w hg
end Go.Proofs.YtpbkjijdilkkcaaDoor
