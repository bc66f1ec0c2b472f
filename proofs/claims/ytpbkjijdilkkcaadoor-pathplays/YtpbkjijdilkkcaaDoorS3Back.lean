/-
  PathBack walked: for every text and list of texts it returns true and changes nothing that was there. Conditions: the list lies in memory; errorType holds error's type.
-/
import Derived.Test.YtpbkjijdilkkcaaDoorS3Names
namespace Go.Proofs.YtpbkjijdilkkcaaDoor
open Go.RowKit

set_option maxHeartbeats 2000000 in
theorem back_long (p : ByteArray) (a : Option Addr) (len cap : Nat) (hl : 200 < p.size ∨ 40 < len) (hz : len ≤ maxLen) (w : World) :
    Calls Tryd.prog 3 #[.string p, .slice a len cap] w fun e w' => e = .returned (.bool true) ∧ Below w.heap.size w w' := by
  unfold maxLen at hz
  have HL := Lib.hid hl
  clear hl
  go_enter Tryd.func3, Tryd.ntmps3
  go_wp2_with fail
  refine (awake_any _).mono ?_
  rintro e w1 ⟨rfl, hb⟩
  have HB1 := Lib.hid hb
  clear hb
  by_cases h1 : (200 : Int) < (p.size : Int)
  · go_wp2_with fail
    refine (awake_any _).mono ?_
    rintro e w2 ⟨rfl, hb⟩
    have HB2 := Lib.hid (HB1.out.trans (hb.mono HB1.out.size))
    clear hb
    go_wp2
    go_ret
    exact ⟨rfl, HB2.out⟩
  · have h3 : (40 : Int) < (len : Int) := by have := HL.out; omega
    go_wp2_with fail
    refine (awake_any _).mono ?_
    rintro e w2 ⟨rfl, hb⟩
    have HB2 := Lib.hid (HB1.out.trans (hb.mono HB1.out.size))
    clear hb
    go_wp2
    go_ret
    exact ⟨rfl, HB2.out⟩

theorem below_drewN {B : Nat} {a w : World} (h : Below B a w) (n : Nat) : Below B a (w.drewN n) := ⟨h.os, h.tape, h.output, h.size, h.block⟩
theorem lists_prts (p : ByteArray) : lists (prts p) = pcs p.data.toList := by
  rw [lists, prts, List.map_map]
  conv => rhs; rw [← List.map_id (pcs p.data.toList)]
  exact List.map_congr_left fun s _ => rfl

set_option maxHeartbeats 8000000 in
theorem back_bad (p : ByteArray) (a : Option Addr) (cap : Nat) (S : List ByteArray) (h1 : p.size ≤ 200) (hl : S.length ≤ 40) (hP : ¬ isP p.data.toList) (w : World) (hr : Row w a cap S) (hg : EtLaid w) :
    Calls Tryd.prog 3 #[.string p, .slice a S.length cap] w fun e w' => e = .returned (.bool true) ∧ Below w.heap.size w w' := by
  have HR := Lib.hid hr
  have HG := Lib.hid hg
  obtain ⟨N, hN⟩ : ∃ N, S.length = N := ⟨_, rfl⟩
  have HN := Lib.hid hN
  rw [hN] at hl ⊢
  have h40 : ¬ (40 : Int) < (N : Int) := by omega
  have h200 : ¬ (200 : Int) < (p.size : Int) := by omega
  have HZ := Lib.hid (show p.size ≤ 9223372036854775807 by omega)
  have HP := Lib.hid hP
  clear hr hg hN h1 hP
  go_enter Tryd.func3, Tryd.ntmps3
  go_wp2_with fail
  refine (awake_any _).mono ?_
  rintro e w1 ⟨rfl, hb⟩
  have HB1 := Lib.hid hb
  clear hb
  go_wp2_with fail
  refine (split_bad p HZ.out HP.out w1).mono ?_
  rintro e w2 ⟨er, rfl, he, hb⟩
  have HB2 := Lib.hid (HB1.out.trans (hb.mono HB1.out.size))
  have HE := Lib.hid he
  obtain ⟨u, y, rfl⟩ := he.iface
  clear hb he
  go_wp2_with fail
  refine (code_err 2 _ w2 HE.out (HG.out.below HG.out.lt HB2.out)).mono ?_
  rintro e w3 ⟨rfl, hb⟩
  have HB3 := Lib.hid (HB2.out.trans (hb.mono HB2.out.size))
  clear hb
  -- the list: joined, split
  have hbL := HB3.out
  by_cases hgd : good (lists S)
  · obtain ⟨y, hy⟩ : ∃ y, bs (pth (lists S)) = y := ⟨_, rfl⟩
    have hyl : y.data.toList = pth (lists S) := by rw [← hy]; rfl
    have hj : Calls Tryd.prog 11 #[.slice a N cap] w3 fun e w' => e = .returned (.tuple #[.string y, .nilIface]) ∧ Below w3.heap.size w3 w' := by
      have := join_good a cap S w3 (HR.out.below hbL) hgd
      rw [HN.out] at this
      exact this.mono fun e w' ⟨p', he, hp', hb'⟩ => ⟨by rw [he, of_data hp', ← hy]; rfl, hb'⟩
    have hyp : prts y = S := by
      rw [prts, hyl, pcs_pth hgd.2, lists, List.map_map]
      conv => rhs; rw [← List.map_id S]
      exact List.map_congr_left fun s _ => bs_data s
    have hPy : isP y.data.toList := by rw [hyl]; exact isP_pth hgd
    have hsp := fun w1 => split_good y hPy w1
    rw [hyp, HN.out] at hsp
    have HJ := Lib.hid hj
    have HSP := Lib.hid hsp
    clear hj hsp hyp hPy hy hyl hgd hbL
    go_wp2_with fail
    refine HJ.out.mono ?_
    rintro e v1 ⟨rfl, hb⟩
    have HV1 := Lib.hid (HB3.out.trans (hb.mono HB3.out.size))
    clear hb
    go_wp2_with fail
    refine (code_nil v1).mono ?_
    rintro e v2 ⟨rfl, rfl⟩
    go_wp2_with fail
    refine (HSP.out v1).mono ?_
    rintro e v3 ⟨a2, cap2, rfl, hrow, hb⟩
    have HV3 := Lib.hid (HV1.out.trans (hb.mono HV1.out.size))
    have HR2 := Lib.hid hrow
    clear hb hrow
    go_wp2
    go_loopg [13] N (fun g vi wx => ∃ (k : Nat), vi = .int .i64 (k : Int) ∧ k + g = N ∧ Hid (Below v3.heap.size v3 wx))
    case atStart => exact ⟨0, rfl, by omega, Below.refl _ _⟩
    case round =>
      obtain ⟨k, rfl, hk, HB⟩ := hrel
      by_cases hlt : k < N
      · have hlt' : (k : Int) < (N : Int) := by omega
        have hw : IntKind.i64.wrap ((k : Int) + 1) = (k : Int) + 1 := IntWalk.i64_in _ (by omega)
        obtain ⟨b, off, x, rfl, hc, hx, _⟩ := (HR.out.below HV3.out).at HB.out (k := k) (by have := HN.out; omega)
        obtain ⟨b2, off2, x2, rfl, hc2, hx2, _⟩ := HR2.out.at HB.out (k := k) (by have := HN.out; omega)
        obtain rfl : x = x2 := by rw [hx] at hx2; exact Option.some.inj hx2
        clear hx hx2
        have hNN : ((N : Int) == (N : Int)) = true := by simp
        have hd : ((x.toList == x.toList)) = true := by simp
        go_wp2
        go_quiet (fail)
        go_wp2
        go_roundg (gk - 1)
        case measure => omega
        case rel => exact ⟨k + 1, by simp, by omega, below_drewN HB.out _⟩
      · have hlt' : ¬ (k : Int) < (N : Int) := by omega
        go_wp2_with fail
        refine (code_nil wr).mono ?_
        rintro e v4 ⟨rfl, rfl⟩
        go_wp2
        go_ret
        exact ⟨by simp, HV3.out.trans (HB.out.mono HV3.out.size)⟩
  · have hj : ∃ R, Calls Tryd.prog 11 #[.slice a N cap] w3 R ∧ ∀ e w', R e w' → e = .returned (.tuple #[.string ⟨#[]⟩, .iface 42 (.int .i64 2)]) ∧ Below w3.heap.size w3 w' := by
      by_cases h6 : S.length ≤ 6
      · have hn : (lists S).all nm = false := by
          rw [Bool.eq_false_iff]
          intro h
          exact hgd ⟨by simpa [lists] using h6, List.all_eq_true.1 h⟩
        have := join_bad a cap S h6 w3 (HR.out.below hbL) hn
        rw [HN.out] at this
        exact ⟨_, this, fun _ _ h => h⟩
      · exact ⟨_, join_long a cap N (by have := HN.out; omega) (by unfold maxLen; omega) w3, fun _ _ h => ⟨h.1, h.2 ▸ Below.refl _ _⟩⟩
    obtain ⟨R, hj, hR⟩ := hj
    have HJ := Lib.hid (hj.mono hR)
    clear hj hR hgd hbL
    go_wp2_with fail
    refine HJ.out.mono ?_
    rintro e v1 ⟨rfl, hb⟩
    have HV1 := Lib.hid (HB3.out.trans (hb.mono HB3.out.size))
    clear hb
    go_wp2_with fail
    refine (code_err 2 _ v1 (isErr_no _ _) (HG.out.below HG.out.lt HV1.out)).mono ?_
    rintro e v2 ⟨rfl, hb⟩
    have HV2 := Lib.hid (HV1.out.trans (hb.mono HV1.out.size))
    clear hb
    go_wp2_with fail
    refine (code_err 2 _ v2 (isErr_no _ _) (HG.out.below HG.out.lt HV2.out)).mono ?_
    rintro e v3 ⟨rfl, hb⟩
    have HV3 := Lib.hid (HV2.out.trans (hb.mono HV2.out.size))
    clear hb
    go_wp2
    go_ret
    exact ⟨rfl, HV3.out⟩

set_option maxHeartbeats 8000000 in
theorem back_good (p : ByteArray) (a : Option Addr) (cap : Nat) (S : List ByteArray) (hl : S.length ≤ 40) (hP : isP p.data.toList) (w : World) (hr : Row w a cap S) (hg : EtLaid w) :
    Calls Tryd.prog 3 #[.string p, .slice a S.length cap] w fun e w' => e = .returned (.bool true) ∧ Below w.heap.size w w' := by
  have HR := Lib.hid hr
  have HG := Lib.hid hg
  obtain ⟨N, hN⟩ : ∃ N, S.length = N := ⟨_, rfl⟩
  have HN := Lib.hid hN
  rw [hN] at hl ⊢
  have h1 := isP_len hP
  rw [← Lib.size_eq] at h1
  have h40 : ¬ (40 : Int) < (N : Int) := by omega
  have h200 : ¬ (200 : Int) < (p.size : Int) := by omega
  have HP := Lib.hid hP
  have hjp : ∀ (a2 : Option Addr) (cap2 : Nat) (w1 : World), Row w1 a2 cap2 (prts p) → Calls Tryd.prog 11 #[.slice a2 (prts p).length cap2] w1 fun e w' => e = .returned (.tuple #[.string p, .nilIface]) ∧ Below w1.heap.size w1 w' := fun a2 cap2 w1 hrow => by
    refine (join_good a2 cap2 (prts p) w1 hrow (by rw [lists_prts]; exact hP.2)).mono ?_
    rintro e w' ⟨p', he, hp', hb'⟩
    rw [lists_prts, hP.eq] at hp'
    exact ⟨by rw [he, of_data hp', Lib.mk_data], hb'⟩
  have HJP := Lib.hid hjp
  have hpp : (p.toList == p.toList) = true := by simp
  clear hr hg hN h1 hP hjp
  go_enter Tryd.func3, Tryd.ntmps3
  go_wp2_with fail
  refine (awake_any _).mono ?_
  rintro e w1 ⟨rfl, hb⟩
  have HB1 := Lib.hid hb
  clear hb
  go_wp2_with fail
  refine (split_good p HP.out w1).mono ?_
  rintro e w2 ⟨a2, cap2, rfl, hrow, hb⟩
  have HB2 := Lib.hid (HB1.out.trans (hb.mono HB1.out.size))
  have HROW := Lib.hid hrow
  clear hb hrow
  go_wp2_with fail
  refine (code_nil w2).mono ?_
  rintro e w3 ⟨rfl, rfl⟩
  go_wp2_with fail
  refine (HJP.out a2 cap2 w2 HROW.out).mono ?_
  rintro e w4 ⟨rfl, hb⟩
  have HB4 := Lib.hid (HB2.out.trans (hb.mono HB2.out.size))
  clear hb
  go_wp2_with fail
  refine (code_nil w4).mono ?_
  rintro e w5 ⟨rfl, rfl⟩
  -- the list: joined, split
  have hbL := HB4.out
  by_cases hgd : good (lists S)
  · obtain ⟨y, hy⟩ : ∃ y, bs (pth (lists S)) = y := ⟨_, rfl⟩
    have hyl : y.data.toList = pth (lists S) := by rw [← hy]; rfl
    have hj : Calls Tryd.prog 11 #[.slice a N cap] w4 fun e w' => e = .returned (.tuple #[.string y, .nilIface]) ∧ Below w4.heap.size w4 w' := by
      have := join_good a cap S w4 (HR.out.below hbL) hgd
      rw [HN.out] at this
      exact this.mono fun e w' ⟨p', he, hp', hb'⟩ => ⟨by rw [he, of_data hp', ← hy]; rfl, hb'⟩
    have hyp : prts y = S := by
      rw [prts, hyl, pcs_pth hgd.2, lists, List.map_map]
      conv => rhs; rw [← List.map_id S]
      exact List.map_congr_left fun s _ => bs_data s
    have hPy : isP y.data.toList := by rw [hyl]; exact isP_pth hgd
    have hsp := fun w1 => split_good y hPy w1
    rw [hyp, HN.out] at hsp
    have HJ := Lib.hid hj
    have HSP := Lib.hid hsp
    clear hj hsp hyp hPy hy hyl hgd hbL
    go_wp2_with fail
    refine HJ.out.mono ?_
    rintro e v1 ⟨rfl, hb⟩
    have HV1 := Lib.hid (HB4.out.trans (hb.mono HB4.out.size))
    clear hb
    go_wp2_with fail
    refine (code_nil v1).mono ?_
    rintro e v2 ⟨rfl, rfl⟩
    go_wp2_with fail
    refine (HSP.out v1).mono ?_
    rintro e v3 ⟨a3, cap3, rfl, hrow, hb⟩
    have HV3 := Lib.hid (HV1.out.trans (hb.mono HV1.out.size))
    have HR2 := Lib.hid hrow
    clear hb hrow
    go_wp2
    go_loopg [13] N (fun g vi wx => ∃ (k : Nat), vi = .int .i64 (k : Int) ∧ k + g = N ∧ Hid (Below v3.heap.size v3 wx))
    case atStart => exact ⟨0, rfl, by omega, Below.refl _ _⟩
    case round =>
      obtain ⟨k, rfl, hk, HB⟩ := hrel
      by_cases hlt : k < N
      · have hlt' : (k : Int) < (N : Int) := by omega
        have hw : IntKind.i64.wrap ((k : Int) + 1) = (k : Int) + 1 := IntWalk.i64_in _ (by omega)
        obtain ⟨b, off, x, rfl, hc, hx, _⟩ := (HR.out.below HV3.out).at HB.out (k := k) (by have := HN.out; omega)
        obtain ⟨b2, off2, x2, rfl, hc2, hx2, _⟩ := HR2.out.at HB.out (k := k) (by have := HN.out; omega)
        obtain rfl : x = x2 := by rw [hx] at hx2; exact Option.some.inj hx2
        clear hx hx2
        have hNN : ((N : Int) == (N : Int)) = true := by simp
        have hd : ((x.toList == x.toList)) = true := by simp
        go_wp2
        go_quiet (fail)
        go_wp2
        go_roundg (gk - 1)
        case measure => omega
        case rel => exact ⟨k + 1, by simp, by omega, below_drewN HB.out _⟩
      · have hlt' : ¬ (k : Int) < (N : Int) := by omega
        go_wp2_with fail
        refine (code_nil wr).mono ?_
        rintro e v4 ⟨rfl, rfl⟩
        go_wp2
        go_ret
        exact ⟨by simp, HV3.out.trans (HB.out.mono HV3.out.size)⟩
  · have hj : ∃ R, Calls Tryd.prog 11 #[.slice a N cap] w4 R ∧ ∀ e w', R e w' → e = .returned (.tuple #[.string ⟨#[]⟩, .iface 42 (.int .i64 2)]) ∧ Below w4.heap.size w4 w' := by
      by_cases h6 : S.length ≤ 6
      · have hn : (lists S).all nm = false := by
          rw [Bool.eq_false_iff]
          intro h
          exact hgd ⟨by simpa [lists] using h6, List.all_eq_true.1 h⟩
        have := join_bad a cap S h6 w4 (HR.out.below hbL) hn
        rw [HN.out] at this
        exact ⟨_, this, fun _ _ h => h⟩
      · exact ⟨_, join_long a cap N (by have := HN.out; omega) (by unfold maxLen; omega) w4, fun _ _ h => ⟨h.1, h.2 ▸ Below.refl _ _⟩⟩
    obtain ⟨R, hj, hR⟩ := hj
    have HJ := Lib.hid (hj.mono hR)
    clear hj hR hgd hbL
    go_wp2_with fail
    refine HJ.out.mono ?_
    rintro e v1 ⟨rfl, hb⟩
    have HV1 := Lib.hid (HB4.out.trans (hb.mono HB4.out.size))
    clear hb
    go_wp2_with fail
    refine (code_err 2 _ v1 (isErr_no _ _) (HG.out.below HG.out.lt HV1.out)).mono ?_
    rintro e v2 ⟨rfl, hb⟩
    have HV2 := Lib.hid (HV1.out.trans (hb.mono HV1.out.size))
    clear hb
    go_wp2_with fail
    refine (code_err 2 _ v2 (isErr_no _ _) (HG.out.below HG.out.lt HV2.out)).mono ?_
    rintro e v3 ⟨rfl, hb⟩
    have HV3 := Lib.hid (HV2.out.trans (hb.mono HV2.out.size))
    clear hb
    go_wp2
    go_ret
    exact ⟨rfl, HV3.out⟩

theorem back_any (p : ByteArray) (a : Option Addr) (cap : Nat) (S : List ByteArray) (hm : S.length ≤ maxLen) (w : World) (hr : Row w a cap S) (hg : EtLaid w) :
    Calls Tryd.prog 3 #[.string p, .slice a S.length cap] w fun e w' => e = .returned (.bool true) ∧ Below w.heap.size w w' := by
  by_cases h : 200 < p.size ∨ 40 < S.length
  · exact back_long p a S.length cap h hm w
  · by_cases hP : isP p.data.toList
    · exact back_good p a cap S (by omega) hP w hr hg
    · exact back_bad p a cap S (by omega) (by omega) hP w hr hg
end Go.Proofs.YtpbkjijdilkkcaaDoor
