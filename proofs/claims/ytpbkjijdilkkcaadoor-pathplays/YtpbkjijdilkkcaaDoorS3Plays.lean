/-
  PathPlays walked: for every two texts it returns true and changes nothing that was there. Condition: errorType holds error's type.
-/
import Derived.Test.YtpbkjijdilkkcaaDoorS3Ref
namespace Go.Proofs.YtpbkjijdilkkcaaDoor
open Go.RowKit

/-- a path's names; none of what is no path -/
def names (p : ByteArray) : List ByteArray := if isP p.data.toList then prts p else []
theorem names_pos {p : ByteArray} (h : isP p.data.toList) : names p = prts p := if_pos h
theorem names_neg {p : ByteArray} (h : ¬ isP p.data.toList) : names p = [] := if_neg h
theorem row_nil (w : World) (a : Option Addr) (cap : Nat) : Row w a cap [] := ⟨by simp, .inl rfl⟩
theorem names_len (p : ByteArray) : (names p).length ≤ 6 := by
  by_cases h : isP p.data.toList
  · rw [names_pos h]
    simpa [prts] using h.2.1
  · rw [names_neg h]
    simp

set_option maxHeartbeats 2000000 in
theorem refSplit_any (p : ByteArray) (hz : p.size ≤ 200) (w : World) :
    Calls Tryd.prog 16 #[.string p] w fun e w' => ∃ a cap, e = .returned (.tuple #[.slice a (names p).length cap, .bool (decide (isP p.data.toList))]) ∧ Row w' a cap (names p) ∧ Below w.heap.size w w' := by
  by_cases h47 : p.data.toList = [47]
  · obtain rfl := of_data h47
    have hn : names (⟨[47].toArray⟩ : ByteArray) = [] := by decide
    have hP : decide (isP (⟨[47].toArray⟩ : ByteArray).data.toList) = true := by decide
    rw [hn, hP]
    go_enter Tryd.func16, Tryd.ntmps16
    go_wp2
    go_ret2
    exact ⟨none, 0, rfl, row_nil _ _ _, Below.refl _ _⟩
  · by_cases hh : p.data.toList.head? = some 47
    · refine (refSplit_slash p hz hh h47 w).mono ?_
      rintro e w' ⟨⟨hP, a, cap, he, hr⟩ | ⟨hP, he⟩, hb⟩
      · rw [names_pos hP, decide_eq_true hP]
        exact ⟨a, cap, he, hr, hb⟩
      · rw [names_neg hP, decide_eq_false hP]
        exact ⟨none, 0, he, row_nil _ _ _, hb⟩
    · have hP : ¬ isP p.data.toList := fun h => hh h.1
      rw [names_neg hP, decide_eq_false hP]
      have hs' : (p.toList == [47]) = false := by rw [eq_slash]; simpa using h47
      by_cases h0 : p.size = 0
      · have hp : p = ⟨#[]⟩ := by
          have : p.data.toList = [] := List.length_eq_zero_iff.1 (by rw [← Lib.size_eq]; exact h0)
          rw [← Lib.mk_data p, this]
        subst hp
        go_enter Tryd.func16, Tryd.ntmps16
        go_wp2
        go_ret2
        exact ⟨none, 0, rfl, row_nil _ _ _, Below.refl _ _⟩
      · have hpos : 0 < p.size := by omega
        have hn0 : ((p.size : Int) == 0) = false := by rw [beq_eq_false_iff_ne]; omega
        have hc0 : (((p[0]'hpos).toNat : Int) != 47) = true := by
          rw [bne_iff_ne]
          intro e
          refine hh ?_
          have h1 := at_eq p 0 hpos
          rw [List.head?_eq_getElem?, h1]
          congr 1
          apply UInt8.toNat_inj.1
          show _ = 47
          omega
        have hc1 : ¬ ((p[0]'hpos).toNat : Int) = 47 := by simpa using hc0
        clear hh hP h47
        go_enter Tryd.func16, Tryd.ntmps16
        go_wp2
        go_ret2
        exact ⟨none, 0, rfl, row_nil _ _ _, Below.refl _ _⟩

/-! ### what under is, while the loop runs -/
def U (b : Bool) (ys zs : List ByteArray) (k : Nat) : Bool := b && decide (zs.length < ys.length) && decide (zs.take k <+: ys)
theorem pre_snoc {a ys : List ByteArray} {z : ByteArray} : (a ++ [z]) <+: ys ↔ a <+: ys ∧ ys[a.length]? = some z := by
  constructor
  · rintro ⟨t, rfl⟩
    exact ⟨⟨z :: t, by simp⟩, by simp⟩
  · rintro ⟨⟨t, rfl⟩, h⟩
    cases t with
    | nil => simp at h
    | cons c t =>
      simp at h
      subst h
      exact ⟨t, by simp⟩
theorem U_ge {b : Bool} {ys zs : List ByteArray} {k : Nat} (h : zs.length ≤ k) : U b ys zs (k + 1) = U b ys zs k := by
  rw [U, U, List.take_of_length_le h, List.take_of_length_le (by omega)]
theorem U_lt {b : Bool} {ys zs : List ByteArray} {k : Nat} {y z : ByteArray} (hy : ys[k]? = some y) (hz : zs[k]? = some z) : U b ys zs (k + 1) = (U b ys zs k && (z.toList == y.toList)) := by
  have hk : k < zs.length := (List.getElem?_eq_some_iff.1 hz).1
  have ht : zs.take (k + 1) = zs.take k ++ [z] := by rw [List.take_add_one, hz]; rfl
  have hl : (zs.take k).length = k := by simp; omega
  have he : (z.toList == y.toList) = decide (some y = some z) := by
    rw [Lib.toList_data, Lib.toList_data, Bool.eq_iff_iff]
    simp
    exact ⟨fun h => by rw [← Lib.mk_data y, ← Lib.mk_data z, h], fun h => by rw [h]⟩
  rw [U, U, ht, he, ← hy, Bool.eq_iff_iff]
  simp only [Bool.and_eq_true, decide_eq_true_iff, pre_snoc, hl]
  exact ⟨fun ⟨h1, h2, h3⟩ => ⟨⟨h1, h2⟩, h3⟩, fun ⟨⟨h1, h2⟩, h3⟩ => ⟨h1, h2, h3⟩⟩
theorem map_bs_prefix {a b : List (List UInt8)} : a.map bs <+: b.map bs ↔ a <+: b := by
  constructor
  · intro h
    have := h.map (fun s : ByteArray => s.data.toList)
    rw [List.map_map, List.map_map] at this
    have e : ∀ l : List (List UInt8), l.map ((fun s : ByteArray => s.data.toList) ∘ bs) = l := fun l => by
      conv => rhs; rw [← List.map_id l]
      exact List.map_congr_left fun _ _ => rfl
    rwa [e, e] at this
  · exact fun h => h.map _
theorem U_end {p q : ByteArray} (hp : isP p.data.toList) : U (decide (isP q.data.toList)) (prts p) (names q) (prts p).length = und p.data.toList q.data.toList := by
  by_cases hq : isP q.data.toList
  · rw [names_pos hq, Bool.eq_iff_iff, und_iff, U, decide_eq_true hq, Bool.true_and, Bool.and_eq_true, decide_eq_true_iff, decide_eq_true_iff]
    constructor
    · rintro ⟨h1, h2⟩
      rw [List.take_of_length_le (by omega), prts, prts, map_bs_prefix] at h2
      refine ⟨hp, hq, h2, fun e => ?_⟩
      simp [prts, e] at h1
    · rintro ⟨_, _, h1, h2⟩
      have hlt : (prts q).length < (prts p).length := by
        simp only [prts, List.length_map]
        refine Nat.lt_of_le_of_ne h1.length_le fun e => h2 (h1.eq_of_length e)
      refine ⟨hlt, ?_⟩
      rw [List.take_of_length_le (by omega), prts, prts, map_bs_prefix]
      exact h1
  · rw [und_neg (.inr hq), U, decide_eq_false hq]
    rfl

set_option maxHeartbeats 2000000 in
theorem plays_long (p q : ByteArray) (hl : 200 < p.size ∨ 200 < q.size) (w : World) :
    Calls Tryd.prog 5 #[.string p, .string q] w fun e w' => e = .returned (.bool true) ∧ Below w.heap.size w w' := by
  have HL := Lib.hid hl
  clear hl
  go_enter Tryd.func5, Tryd.ntmps5
  go_wp2_with fail
  refine (awake_any _).mono ?_
  rintro e w1 ⟨rfl, hb⟩
  have HB1 := Lib.hid hb
  clear hb
  by_cases h1 : (200 : Int) < (p.size : Int)
  · go_wp2_with fail
    refine (awake_any _).mono ?_
    rintro e w2 ⟨rfl, hb⟩
    have HB2 := Lib.hid (HB1.out.trans (hb.mono HB1.out.size))
    clear hb
    go_wp2
    go_ret
    exact ⟨rfl, HB2.out⟩
  · have h3 : (200 : Int) < (q.size : Int) := by have := HL.out; omega
    go_wp2_with fail
    refine (awake_any _).mono ?_
    rintro e w2 ⟨rfl, hb⟩
    have HB2 := Lib.hid (HB1.out.trans (hb.mono HB1.out.size))
    clear hb
    go_wp2
    go_ret
    exact ⟨rfl, HB2.out⟩

set_option maxHeartbeats 8000000 in
theorem plays_bad (p q : ByteArray) (h1 : p.size ≤ 200) (h2 : q.size ≤ 200) (hP : ¬ isP p.data.toList) (w : World) (hg : EtLaid w) :
    Calls Tryd.prog 5 #[.string p, .string q] w fun e w' => e = .returned (.bool true) ∧ Below w.heap.size w w' := by
  have l1 : ¬ (200 : Int) < (p.size : Int) := by omega
  have l2 : ¬ (200 : Int) < (q.size : Int) := by omega
  have HZ := Lib.hid (show p.size ≤ 9223372036854775000 by omega)
  have hrs := fun w1 => refSplit_any p h1 w1
  rw [names_neg hP, decide_eq_false hP] at hrs
  have HRS := Lib.hid hrs
  have HRQ := Lib.hid (fun w1 => refSplit_any q h2 w1)
  have HQ6 := Lib.hid (names_len q)
  have HD := Lib.hid (dp_neg hP)
  have HU := Lib.hid (und_neg (q := q.data.toList) (.inl hP))
  have HZ1 := Lib.hid h1
  have HZ2 := Lib.hid h2
  have HP := Lib.hid hP
  have HG := Lib.hid hg
  obtain ⟨nmp, hnmp⟩ : ∃ b, nm p.data.toList = b := ⟨_, rfl⟩
  have HNM := Lib.hid hnmp
  clear h1 h2 hP hg hrs hnmp
  go_enter Tryd.func5, Tryd.ntmps5
  go_wp2_with fail
  refine (awake_any _).mono ?_
  rintro e w1 ⟨rfl, hb⟩
  have HB1 := Lib.hid hb
  clear hb
  go_wp2_with fail
  refine (split_bad p (Nat.le_trans HZ.out (by omega)) HP.out w1).mono ?_
  rintro e w2 ⟨er, rfl, he, hb⟩
  have HB2 := Lib.hid (HB1.out.trans (hb.mono HB1.out.size))
  have HE := Lib.hid he
  obtain ⟨u, y, rfl⟩ := he.iface
  clear hb he
  go_wp2_with fail
  refine (HRS.out w2).mono ?_
  rintro e w3 ⟨a3, cap3, rfl, _, hb⟩
  have HB3 := Lib.hid (HB2.out.trans (hb.mono HB2.out.size))
  have HE3 := Lib.hid (HE.out.below hb)
  clear hb
  go_wp2_with fail
  refine (HRQ.out w3).mono ?_
  rintro e w4 ⟨a4, cap4, rfl, _, hb⟩
  have HB4 := Lib.hid (HB3.out.trans (hb.mono HB3.out.size))
  have HE4 := Lib.hid (HE3.out.below hb)
  clear hb
  go_wp2_with fail
  refine (name_any p w4).mono ?_
  rintro e w5 ⟨rfl, hb⟩
  have HB5 := Lib.hid (HB4.out.trans (hb.mono HB4.out.size))
  have HE5 := Lib.hid (HE4.out.below hb)
  clear hb
  rw [HNM.out]
  go_wp2_with fail
  refine (refName p HZ.out w5).mono ?_
  rintro e w6 ⟨rfl, rfl⟩
  rw [HNM.out]
  have hbb : (nmp == nmp) = true := by simp
  have hbn : (nmp != nmp) = false := by simp
  go_wp2_with fail
  refine (code_err 2 _ w5 HE5.out (HG.out.below HG.out.lt HB5.out)).mono ?_
  rintro e w7 ⟨rfl, hb⟩
  have HB7 := Lib.hid (HB5.out.trans (hb.mono HB5.out.size))
  have HE7 := Lib.hid (HE5.out.below hb)
  clear hb
  go_wp2_with fail
  refine (code_err 2 _ w7 HE7.out (HG.out.below HG.out.lt HB7.out)).mono ?_
  rintro e w8 ⟨rfl, hb⟩
  have HB8 := Lib.hid (HB7.out.trans (hb.mono HB7.out.size))
  clear hb
  go_wp2
  go_loopg [11, 12] 0 (fun g vu vi wx => vu = .bool false ∧ vi = .int .i64 0 ∧ g = 0 ∧ Hid (Below w.heap.size w wx))
  case atStart => exact ⟨rfl, rfl, rfl, HB8.out⟩
  case round =>
    obtain ⟨rfl, rfl, rfl, HB⟩ := hrel
    go_wp2_with fail
    refine (under_any p q (Nat.le_trans HZ1.out (by omega)) (Nat.le_trans HZ2.out (by omega)) wr).mono ?_
    rintro e w9 ⟨rfl, hb⟩
    have HB9 := Lib.hid (HB.out.trans (hb.mono HB.out.size))
    clear hb
    rw [HU.out]
    go_wp2_with fail
    refine (deep_any p (Nat.le_trans HZ1.out (by omega)) w9).mono ?_
    rintro e w10 ⟨rfl, hb⟩
    have HB10 := Lib.hid (HB9.out.trans (hb.mono HB9.out.size))
    clear hb
    rw [HD.out]
    go_wp2
    go_ret
    exact ⟨rfl, HB10.out⟩

theorem drew_cell (w : World) (n : Nat) (a : Addr) : (w.drewN n).cell? a = w.cell? a := rfl

set_option maxHeartbeats 16000000 in
theorem plays_good (p q : ByteArray) (h2 : q.size ≤ 200) (hP : isP p.data.toList) (w : World) :
    Calls Tryd.prog 5 #[.string p, .string q] w fun e w' => e = .returned (.bool true) ∧ Below w.heap.size w w' := by
  have h1 := isP_len hP
  rw [← Lib.size_eq] at h1
  have l1 : ¬ (200 : Int) < (p.size : Int) := by omega
  have l2 : ¬ (200 : Int) < (q.size : Int) := by omega
  have HZ := Lib.hid (show p.size ≤ 9223372036854775000 by omega)
  have hrs := fun w1 => refSplit_any p (by omega) w1
  rw [names_pos hP, decide_eq_true hP] at hrs
  have hrq := fun w1 => refSplit_any q h2 w1
  have hsp := fun w1 => split_good p hP w1
  have hu := U_end (q := q) hP
  have hd : dp p.data.toList = ((prts p).length : Int) := by rw [dp_pos hP]; simp [prts]
  obtain ⟨b, hb⟩ : ∃ b, decide (isP q.data.toList) = b := ⟨_, rfl⟩
  obtain ⟨zs, hzs⟩ : ∃ zs, names q = zs := ⟨_, rfl⟩
  obtain ⟨ys, hys⟩ : ∃ ys, prts p = ys := ⟨_, rfl⟩
  have hM6 := names_len q
  have hN6 : (prts p).length ≤ 6 := by simpa [prts] using hP.2.1
  rw [hb, hzs] at hrq
  rw [hys] at hrs hsp hd hN6
  rw [hb, hzs, hys] at hu
  rw [hzs] at hM6
  obtain ⟨M, hM⟩ : ∃ M, zs.length = M := ⟨_, rfl⟩
  obtain ⟨N, hN⟩ : ∃ N, ys.length = N := ⟨_, rfl⟩
  rw [hM] at hrq hM6
  rw [hN] at hrs hsp hd hN6 hu
  have HRS := Lib.hid hrs
  have HRQ := Lib.hid hrq
  have HSP := Lib.hid hsp
  have HU := Lib.hid hu
  have HD := Lib.hid hd
  have HMl := Lib.hid hM
  have HNl := Lib.hid hN
  have HZ1 := Lib.hid h1
  have HZ2 := Lib.hid h2
  obtain ⟨nmp, hnmp⟩ : ∃ b, nm p.data.toList = b := ⟨_, rfl⟩
  have HNM := Lib.hid hnmp
  clear h1 h2 hP hrs hrq hsp hu hd hb hzs hys hM hN hnmp
  go_enter Tryd.func5, Tryd.ntmps5
  go_wp2_with fail
  refine (awake_any _).mono ?_
  rintro e w1 ⟨rfl, hb⟩
  have HB1 := Lib.hid hb
  clear hb
  go_wp2_with fail
  refine (HSP.out w1).mono ?_
  rintro e w2 ⟨a2, cap2, rfl, hr, hb⟩
  have HB2 := Lib.hid (HB1.out.trans (hb.mono HB1.out.size))
  have HX2 := Lib.hid hr
  clear hb hr
  go_wp2_with fail
  refine (HRS.out w2).mono ?_
  rintro e w3 ⟨a3, cap3, rfl, hr, hb⟩
  have HB3 := Lib.hid (HB2.out.trans (hb.mono HB2.out.size))
  have HX3 := Lib.hid (HX2.out.below hb)
  have HY3 := Lib.hid hr
  clear hb hr
  go_wp2_with fail
  refine (HRQ.out w3).mono ?_
  rintro e w4 ⟨a4, cap4, rfl, hr, hb⟩
  have HB4 := Lib.hid (HB3.out.trans (hb.mono HB3.out.size))
  have HX4 := Lib.hid (HX3.out.below hb)
  have HY4 := Lib.hid (HY3.out.below hb)
  have HZ4 := Lib.hid hr
  clear hb hr
  go_wp2_with fail
  refine (name_any p w4).mono ?_
  rintro e w5 ⟨rfl, hb⟩
  have HB5 := Lib.hid (HB4.out.trans (hb.mono HB4.out.size))
  have HX5 := Lib.hid (HX4.out.below hb)
  have HY5 := Lib.hid (HY4.out.below hb)
  have HZ5 := Lib.hid (HZ4.out.below hb)
  clear hb
  rw [HNM.out]
  go_wp2_with fail
  refine (refName p HZ.out w5).mono ?_
  rintro e w6 ⟨rfl, rfl⟩
  rw [HNM.out]
  have hbb : (nmp == nmp) = true := by simp
  have hbn : (nmp != nmp) = false := by simp
  go_wp2_with fail
  refine (code_nil w5).mono ?_
  rintro e w7 ⟨rfl, rfl⟩
  have hNN : ((N : Int) == (N : Int)) = true := by simp
  cases b with
  | true =>
    go_wp2
    go_loopg [11, 12] N (fun g vu vi wx => ∃ (k : Nat) (u : Bool), vu = .bool u ∧ vi = .int .i64 (k : Int) ∧ k + g = N ∧ Hid (Below w5.heap.size w5 wx) ∧ Hid (u = U true ys zs k))
    case atStart => exact ⟨0, _, rfl, rfl, by omega, Below.refl _ _, by show _ = _; simp [U, HMl.out, HNl.out]⟩
    case round =>
      obtain ⟨k, u, rfl, rfl, hk, HB, HV⟩ := hrel
      by_cases hlt : k < N
      · have hlt' : (k : Int) < (N : Int) := by omega
        have hw : IntKind.i64.wrap ((k : Int) + 1) = (k : Int) + 1 := IntWalk.i64_in _ (by omega)
        obtain ⟨b2, o2, x, rfl, hcx, hx, _⟩ := HX5.out.at HB.out (k := k) (by have := HNl.out; omega)
        obtain ⟨b3, o3, y, rfl, hcy, hy, _⟩ := HY5.out.at HB.out (k := k) (by have := HNl.out; omega)
        obtain rfl : x = y := by rw [hx] at hy; exact Option.some.inj hy
        have hyy : (x.toList == x.toList) = true := by simp
        by_cases hkM : k < M
        · obtain ⟨b4, o4, z, rfl, hcz, hzz, _⟩ := HZ5.out.at HB.out (k := k) (by have := HMl.out; omega)
          have hst := U_lt (b := true) hx hzz
          have HST := Lib.hid hst
          have hkM' : (k : Int) < (M : Int) := by omega
          have hd : decide ((M : Int) ≤ (k : Int)) = false := by simp; omega
          clear hst hx hy hzz
          cases u with
          | false =>
            go_wp2
            go_quiet (fail)
            go_wp2
            go_quiet (fail)
            go_wp2
            go_roundg (gk - 1)
            case measure => omega
            case rel => exact ⟨k + 1, _, rfl, by simp, by omega, below_drewN HB.out _, by show _ = _; rw [HST.out, ← HV.out]; simp⟩
          | true =>
            cases heq : (z.toList == x.toList) with
            | true =>
              go_wp2
              go_quiet (fail)
              go_wp2
              go_quiet (fail)
              go_wp2
              go_roundg (gk - 1)
              case measure => omega
              case rel => exact ⟨k + 1, _, rfl, by simp, by omega, below_drewN HB.out _, by show _ = _; rw [HST.out, ← HV.out]; first | (simp [heq]; done) | (simp [heq]; omega)⟩
            | false =>
              go_wp2
              go_quiet (fail)
              go_wp2
              go_quiet (fail)
              go_wp2
              go_roundg (gk - 1)
              case measure => omega
              case rel => exact ⟨k + 1, _, rfl, by simp, by omega, below_drewN HB.out _, by show _ = _; rw [HST.out, ← HV.out]; first | (simp [heq]; done) | (simp [heq]; omega)⟩
        · have hst := U_ge (b := true) (ys := ys) (zs := zs) (k := k) (by have := HMl.out; omega)
          have HST := Lib.hid hst
          have hd : decide ((M : Int) ≤ (k : Int)) = true := by simp; omega
          clear hst hx hy
          cases u with
          | false =>
            go_wp2
            go_quiet (fail)
            go_wp2
            go_quiet (fail)
            go_wp2
            go_roundg (gk - 1)
            case measure => omega
            case rel => exact ⟨k + 1, _, rfl, by simp, by omega, below_drewN HB.out _, by show _ = _; rw [HST.out, ← HV.out]⟩
          | true =>
            go_wp2
            go_quiet (fail)
            go_wp2
            go_quiet (fail)
            go_wp2
            go_roundg (gk - 1)
            case measure => omega
            case rel => exact ⟨k + 1, _, rfl, by simp, by omega, below_drewN HB.out _, by show _ = _; rw [HST.out, ← HV.out]⟩
      · have hkN : k = N := by omega
        have hlt' : ¬ (k : Int) < (N : Int) := by omega
        have hu : u = und p.data.toList q.data.toList := by rw [HV.out, hkN]; exact HU.out
        have HUU := Lib.hid hu
        clear hu
        have HBw := Lib.hid (HB5.out.trans (HB.out.mono HB5.out.size))
        go_wp2_with fail
        refine (under_any p q (Nat.le_trans HZ1.out (by omega)) (Nat.le_trans HZ2.out (by omega)) wr).mono ?_
        rintro e w9 ⟨rfl, hb⟩
        have HB9 := Lib.hid (HBw.out.trans (hb.mono HBw.out.size))
        clear hb
        rw [← HUU.out]
        have huu : (u == u) = true := by simp
        go_wp2_with fail
        refine (deep_any p (Nat.le_trans HZ1.out (by omega)) w9).mono ?_
        rintro e w10 ⟨rfl, hb⟩
        have HB10 := Lib.hid (HB9.out.trans (hb.mono HB9.out.size))
        clear hb
        rw [HD.out]
        go_wp2
        go_ret
        exact ⟨by simp, HB10.out⟩
  | false =>
    go_wp2
    go_loopg [11, 12] N (fun g vu vi wx => ∃ (k : Nat) (u : Bool), vu = .bool u ∧ vi = .int .i64 (k : Int) ∧ k + g = N ∧ Hid (Below w5.heap.size w5 wx) ∧ Hid (u = U false ys zs k))
    case atStart => exact ⟨0, _, rfl, rfl, by omega, Below.refl _ _, by show _ = _; simp [U, HMl.out, HNl.out]⟩
    case round =>
      obtain ⟨k, u, rfl, rfl, hk, HB, HV⟩ := hrel
      by_cases hlt : k < N
      · have hlt' : (k : Int) < (N : Int) := by omega
        have hw : IntKind.i64.wrap ((k : Int) + 1) = (k : Int) + 1 := IntWalk.i64_in _ (by omega)
        obtain ⟨b2, o2, x, rfl, hcx, hx, _⟩ := HX5.out.at HB.out (k := k) (by have := HNl.out; omega)
        obtain ⟨b3, o3, y, rfl, hcy, hy, _⟩ := HY5.out.at HB.out (k := k) (by have := HNl.out; omega)
        obtain rfl : x = y := by rw [hx] at hy; exact Option.some.inj hy
        have hyy : (x.toList == x.toList) = true := by simp
        by_cases hkM : k < M
        · obtain ⟨b4, o4, z, rfl, hcz, hzz, _⟩ := HZ5.out.at HB.out (k := k) (by have := HMl.out; omega)
          have hst := U_lt (b := false) hx hzz
          have HST := Lib.hid hst
          have hkM' : (k : Int) < (M : Int) := by omega
          have hd : decide ((M : Int) ≤ (k : Int)) = false := by simp; omega
          clear hst hx hy hzz
          cases u with
          | false =>
            go_wp2
            go_quiet (fail)
            go_wp2
            go_quiet (fail)
            go_wp2
            go_roundg (gk - 1)
            case measure => omega
            case rel => exact ⟨k + 1, _, rfl, by simp, by omega, below_drewN HB.out _, by show _ = _; rw [HST.out, ← HV.out]; simp⟩
          | true => exact absurd HV.out (by simp [U])
        · have hst := U_ge (b := false) (ys := ys) (zs := zs) (k := k) (by have := HMl.out; omega)
          have HST := Lib.hid hst
          have hd : decide ((M : Int) ≤ (k : Int)) = true := by simp; omega
          clear hst hx hy
          cases u with
          | false =>
            go_wp2
            go_quiet (fail)
            go_wp2
            go_quiet (fail)
            go_wp2
            go_roundg (gk - 1)
            case measure => omega
            case rel => exact ⟨k + 1, _, rfl, by simp, by omega, below_drewN HB.out _, by show _ = _; rw [HST.out, ← HV.out]⟩
          | true => exact absurd HV.out (by simp [U])
      · have hkN : k = N := by omega
        have hlt' : ¬ (k : Int) < (N : Int) := by omega
        have hu : u = und p.data.toList q.data.toList := by rw [HV.out, hkN]; exact HU.out
        have HUU := Lib.hid hu
        clear hu
        have HBw := Lib.hid (HB5.out.trans (HB.out.mono HB5.out.size))
        go_wp2_with fail
        refine (under_any p q (Nat.le_trans HZ1.out (by omega)) (Nat.le_trans HZ2.out (by omega)) wr).mono ?_
        rintro e w9 ⟨rfl, hb⟩
        have HB9 := Lib.hid (HBw.out.trans (hb.mono HBw.out.size))
        clear hb
        rw [← HUU.out]
        have huu : (u == u) = true := by simp
        go_wp2_with fail
        refine (deep_any p (Nat.le_trans HZ1.out (by omega)) w9).mono ?_
        rintro e w10 ⟨rfl, hb⟩
        have HB10 := Lib.hid (HB9.out.trans (hb.mono HB9.out.size))
        clear hb
        rw [HD.out]
        go_wp2
        go_ret
        exact ⟨by simp, HB10.out⟩

theorem plays_any (p q : ByteArray) (w : World) (hg : EtLaid w) : Calls Tryd.prog 5 #[.string p, .string q] w fun e w' => e = .returned (.bool true) ∧ Below w.heap.size w w' := by
  by_cases h : 200 < p.size ∨ 200 < q.size
  · exact plays_long p q h w
  · by_cases hP : isP p.data.toList
    · exact plays_good p q (by omega) hP w
    · exact plays_bad p q (by omega) (by omega) hP w hg
end Go.Proofs.YtpbkjijdilkkcaaDoor
