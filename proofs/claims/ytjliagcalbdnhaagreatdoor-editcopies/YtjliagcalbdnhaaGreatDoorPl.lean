/-
  Contracts of package tree's closure that compares an entry with a path, of slices.BinarySearchFunc with it, and of place: where in a rising list an entry at a path stands or would stand, and whether one does. Conditions: the list lies in memory, rises, has at most 1000 entries.
  Contracts of package tree's with and without: a tree with an entry where none stands, without the one that stands at a place. Conditions: the list lies in memory, rises, has at most 1000 entries.
  Contracts of package tree's lying, other, house, standing, vacant, made. Conditions: a tree in memory, of at most 900 entries, texts of at most 100000 bytes.
  Contracts of package tree's standing, vacant, made, Create and Mkdir. Conditions: a tree in memory, of at most 900 entries, texts of at most 100000 bytes.
  Contracts of package tree's sized, and of the closures by which Write and Cut make new data of old ones. Conditions: texts of at most 1000 bytes, lengths of at most 1000.
  Contracts of slices.Clone of entries, of package tree's rewritten, Write, Cut, Unlink. Conditions: a tree in memory, of at most 900 entries, texts of at most 100000 bytes.
  Contracts of package tree's under, of slices.ContainsFunc with it, of Rmdir and Rename. Conditions: a tree in memory, of at most 900 entries, texts of at most 100000 bytes.
  The landed code's package tree answers as Tree11 says. No condition beyond Tree11's own.
  Contracts of package tree's found, sought and Read: the landed code's Read answers as Read11 says. Conditions: a tree in memory, of at most 900 entries, texts of at most 100000 bytes.
-/
import Derived.Test.YtjliagcalbdnhaaGreatDoorPd
import Derived.Deep.LoopGhost
import Derived.Lib.Hide
import Derived.IntWalk
import Derived.Laws.Cover1
import Derived.Test.YtjliagcalbdnhaaGreatDoorPh
import Derived.Test.YtjliagcalbdnhaaGreatDoorPb
import Derived.Deep.RegionHeld3
import Derived.Test.YtjliagcalbdnhaaGreatDoorS11Spec
import Derived.Test.YtjliagcalbdnhaaGreatDoorPj
import Derived.Test.YtjliagcalbdnhaaGreatDoorAtEr
import Derived.Test.YtjliagcalbdnhaaGreatDoorShelf
import Derived.Test.YtjliagcalbdnhaaGreatDoorPc
import Derived.Test.YtjliagcalbdnhaaGreatDoorRowSet
import Derived.Lib.SliceRun
import Derived.Test.YtjliagcalbdnhaaGreatDoorS11SpecR
import Derived.Laws.ResultCell
namespace Go.Proofs.YtjliagcalbdnhaaGreatDoor
open Go.RowKit

set_option maxRecDepth 10000 in
set_option maxHeartbeats 1000000 in
theorem clo11 (x : Ent) (p : ByteArray) (W : World) : Calls Tryz.prog 151 #[enV x, .string p] W fun e w' => e = .returned (.int .i64 (Lib.compareBytes (pl x) p.data.toList)) ∧ Below W.heap.size W w' := by
  have HC := Lib.hid (fun W' => cmp10 x.1 p W')
  obtain ⟨r, hr⟩ : ∃ r, Lib.compareBytes (pl x) p.data.toList = r := ⟨_, rfl⟩
  unfold pl at hr
  rw [hr] at HC
  rw [show Lib.compareBytes (pl x) p.data.toList = r from hr]
  clear hr
  go_enter Tryz.func151, Tryz.ntmps151
  go_wp2_with fail
  refine (HC.out _).mono ?_
  rintro e w' ⟨rfl, rfl⟩
  go_wp2
  go_ret
  exact ⟨rfl, (Below.refl _ _).alloc (Nat.le_refl _) _⟩
set_option maxRecDepth 10000 in
set_option maxHeartbeats 2000000 in
theorem search11 (l : List Ent) (a : Option Addr) (cap : Nat) (p : ByteArray) (w : World) (h : Ents w a cap l) (hA : Asc l) (hl : l.length ≤ 1000) :
    Calls Tryz.prog 150 #[.slice a l.length cap, .string p, .func (.func 151) #[] #[]] w fun e w' => e = .returned (.tuple #[.int .i64 (plc l p.data.toList : Nat), .bool (fnd l p.data.toList).isSome]) ∧ Below w.heap.size w w' := by
  obtain ⟨K, hK⟩ : ∃ K, plc l p.data.toList = K := ⟨_, rfl⟩
  have HK := Lib.hid (show K ≤ l.length by rw [← hK]; exact plc_le _ _)
  have HAT := Lib.hid (fun i (hi : i < l.length) => plc_at hA p.data.toList hi)
  have HFN := Lib.hid (plc_fnd hA p.data.toList)
  have HE := Lib.hid h
  rw [hK] at HFN ⊢
  have HKK := Lib.hid hK
  obtain ⟨R, hR⟩ : ∃ R, (fnd l p.data.toList).isSome = R := ⟨_, rfl⟩
  rw [hR]
  have HR := Lib.hid hR
  clear h hA hK hR
  go_enter Tryz.func150, Tryz.ntmps150
  go_wp2
  go_loopg [9, 10] l.length (fun g s5 s6 wr => ∃ (lo hi : Nat), s5 = .int .i64 (lo : Int) ∧ s6 = .int .i64 (hi : Int) ∧ lo ≤ hi ∧ hi ≤ l.length ∧ hi - lo ≤ g ∧ Hid (lo ≤ K ∧ K ≤ hi) ∧ Hid (Below w.heap.size w wr))
  case atStart => exact ⟨0, l.length, rfl, rfl, Nat.zero_le _, Nat.le_refl _, by omega, ⟨by omega, HK.out⟩, Below.refl _ _⟩
  case round =>
    obtain ⟨lo, hi, rfl, rfl, hlh, hin, hg, HI, HB⟩ := hrel
    by_cases hlt : lo < hi
    · have hmid : (lo + hi) / 2 < l.length := by omega
      obtain ⟨b, off, rfl, hb, hc⟩ := Ents.at HE.out HB.out hmid
      have HA2 := Lib.hid (HAT.out _ hmid)
      obtain ⟨x, hx⟩ : ∃ x, l[(lo + hi) / 2] = x := ⟨_, rfl⟩
      rw [hx] at hc HA2
      have c0 := hc.c0
      have c1 := hc.c1
      have c2 := hc.c2
      have HC := Lib.hid (clo11 x p wr)
      obtain ⟨r, hr⟩ : ∃ r, Lib.compareBytes (pl x) p.data.toList = r := ⟨_, rfl⟩
      have HLT := Lib.hid (compare_lt (pl x) p.data.toList)
      rw [HA2.out, HKK.out, hr] at HLT
      rw [hr] at HC
      clear hc hx hb hr
      by_cases hp : r < 0
      · have HP := Lib.hid (show (lo + hi) / 2 < K by have := HLT.out; simpa [hp] using this)
        go_wp2_with fail
        refine (HC.out).mono ?_
        rintro e w1 ⟨rfl, hb⟩
        have HB1 := Lib.hid (HB.out.trans (hb.mono HB.out.size))
        clear hb
        go_wp2
        go_roundg (hi - ((lo + hi) / 2 + 1))
        case measure => omega
        case rel => exact ⟨(lo + hi) / 2 + 1, hi, by rw [show ((lo : Int) + (hi : Int)) / 2 + 1 = (((lo + hi) / 2 + 1 : Nat) : Int) by omega], rfl, by omega, hin, Nat.le_refl _, ⟨by have := HP.out; omega, HI.out.2⟩, HB1.out⟩
      · have HP := Lib.hid (show K ≤ (lo + hi) / 2 by have := HLT.out; simpa [hp] using this)
        go_wp2_with fail
        refine (HC.out).mono ?_
        rintro e w1 ⟨rfl, hb⟩
        have HB1 := Lib.hid (HB.out.trans (hb.mono HB.out.size))
        clear hb
        go_wp2
        go_roundg ((lo + hi) / 2 - lo)
        case measure => omega
        case rel => exact ⟨lo, (lo + hi) / 2, rfl, by rw [show ((lo : Int) + (hi : Int)) / 2 = (((lo + hi) / 2 : Nat) : Int) by omega], by omega, by omega, Nat.le_refl _, ⟨HI.out.1, HP.out⟩, HB1.out⟩
    · obtain rfl : lo = K := by have := HI.out; omega
      obtain rfl : hi = lo := by omega
      by_cases hend : hi < l.length
      · have hend' : (hi : Int) < (l.length : Int) := by omega
        obtain ⟨b, off, rfl, hb, hc⟩ := Ents.at HE.out HB.out hend
        have hf := HFN.out
        rw [List.getElem?_eq_getElem hend, Option.bind_some] at hf
        obtain ⟨x, hx⟩ : ∃ x, l[hi] = x := ⟨_, rfl⟩
        rw [hx] at hc hf
        have c0 := hc.c0
        have c1 := hc.c1
        have c2 := hc.c2
        have HC := Lib.hid (clo11 x p wr)
        obtain ⟨r, hr⟩ : ∃ r, Lib.compareBytes (pl x) p.data.toList = r := ⟨_, rfl⟩
        have hz := compare_zero (pl x) p.data.toList
        rw [hr] at hz HC
        have HV := Lib.hid (show (r == 0) = R by
          rw [← HR.out, hf, show (r == 0) = decide (r = 0) from rfl, hz]
          by_cases hp : pl x = p.data.toList
          · rw [if_pos hp, decide_eq_true hp]; rfl
          · rw [if_neg hp, decide_eq_false hp]; rfl)
        clear hc hx hb hr hf hz HFN
        go_wp2_with fail
        refine (HC.out).mono ?_
        rintro e w1 ⟨rfl, hb⟩
        have HB1 := Lib.hid (HB.out.trans (hb.mono HB.out.size))
        clear hb
        go_wp2
        go_ret2
        exact ⟨by rw [← HV.out]; rfl, HB1.out⟩
      · have hend' : ¬ (hi : Int) < (l.length : Int) := by omega
        have hf := HFN.out
        rw [List.getElem?_eq_none (by omega), Option.bind_none] at hf
        have HV := Lib.hid (show R = false by rw [← HR.out, hf]; rfl)
        clear hf HFN
        go_wp2
        go_ret2
        exact ⟨by rw [HV.out]; rfl, HB.out⟩
set_option maxRecDepth 10000 in
set_option maxHeartbeats 1000000 in
theorem place11 (l : List Ent) (a : Option Addr) (cap : Nat) (p : ByteArray) (w : World) (h : Ents w a cap l) (hA : Asc l) (hl : l.length ≤ 1000) :
    Calls Tryz.prog 117 #[.slice a l.length cap, .string p] w fun e w' => e = .returned (.tuple #[.int .i64 (plc l p.data.toList : Nat), .bool (fnd l p.data.toList).isSome]) ∧ Below w.heap.size w w' := by
  have HC := Lib.hid (search11 l a cap p w h hA hl)
  have hmf : ∀ (fn : Fn) (first cap : Array Value) (w : World), (Instr.makeFunc fn first cap).run Tryz.prog w = .ok (.func fn first cap) w := fun _ _ _ _ => rfl
  obtain ⟨K, hK⟩ : ∃ K, plc l p.data.toList = K := ⟨_, rfl⟩
  obtain ⟨q, hq⟩ : ∃ q, (fnd l p.data.toList).isSome = q := ⟨_, rfl⟩
  rw [hK, hq] at HC ⊢
  clear h hA hl hK hq
  go_enter Tryz.func117, Tryz.ntmps117
  go_wp2_with fail
  refine (HC.out).mono ?_
  rintro e w1 ⟨rfl, hb⟩
  have HB := Lib.hid hb
  clear hb
  go_wp2
  go_ret2
  exact ⟨rfl, HB.out⟩
end Go.Proofs.YtjliagcalbdnhaaGreatDoor

namespace Go.Proofs.YtjliagcalbdnhaaGreatDoor
open Go.RowKit

set_option maxRecDepth 10000 in
set_option maxHeartbeats 4000000 in
theorem without11 (l : List Ent) (a : Option Addr) (cap : Nat) (p : List UInt8) (x : Ent) (w : World) (h : Ents w a cap l) (hA : Asc l) (hl : l.length ≤ 1000) (hf : fnd l p = some x) : Calls Tryz.prog 107 #[.slice a l.length cap, .int .i64 (plc l p : Nat)] w fun e w' => ∃ a' cap', e = .returned (.slice a' (wout l p).length cap') ∧ Ents w' a' cap' (wout l p) ∧ Below w.heap.size w w' := by
  have HWO := Lib.hid (wout_old hA hf)
  obtain ⟨hk, _, _⟩ := plc_some hA hf
  obtain ⟨K, hK⟩ : ∃ K, plc l p = K := ⟨_, rfl⟩
  rw [hK] at hk HWO ⊢
  obtain ⟨b, off, rfl, _, _⟩ := Ents.at h (Below.refl _ _) hk
  have HOL := Lib.hid (show (wout l p).length ≤ 1000 by have : (wout l p).length ≤ l.length := List.length_filter_le _ _; omega)
  obtain ⟨o, ho⟩ : ∃ o, wout l p = o := ⟨_, rfl⟩
  rw [ho] at HWO HOL ⊢
  have HOF := Lib.hid (show o = [l.take K, l.drop (K + 1)].flatten by rw [HWO.out]; simp)
  have HE := Lib.hid h
  have HCAP := Lib.hid h.1
  have k1 : (K : Int) ≤ (cap : Int) := by have := h.1; omega
  have k2 : (K : Int) + 1 ≤ (l.length : Int) := by omega
  have k3 : IntKind.i64.wrap ((K : Int) + 1) = (K : Int) + 1 := IntWalk.i64_in _ (by omega)
  have k4 : (0 : Int) ≤ (K : Int) + 1 := by omega
  have k5 : ((K : Int) + 1).toNat = K + 1 := by omega
  have k6 : (l.length : Int) ≤ (cap : Int) := by have := h.1; omega
  clear hf hK ho h hA hl
  by_cases hcap : cap = K + 1
  · subst hcap
    have k7 : (K : Int) ≤ (K : Int) + 1 := by omega
    have k8 : (l.length : Int) ≤ (K : Int) + 1 := by have := HCAP.out; omega
    have HCC := Lib.hid (concat9 [l.take K, l.drop (K + 1)] _ _ _ ((stk2_new w (some ⟨b, off, none⟩) (some ⟨b, off, none⟩) (K + 1) 0 (l.take K) (l.drop (K + 1)) (Ents.take HE.out K) (by rw [List.drop_eq_nil_iff.2 HCAP.out]; exact ents_nil _ _ _)).drew) (by simp) (by rw [← HOF.out]; have := HOL.out; omega))
    simp only [← HOF.out] at HCC
    rw [List.length_take, List.length_drop, Nat.min_eq_left (show K ≤ l.length by omega)] at HCC
    have HA1 : Hid (Calls Tryz.prog 147 #[.slice (some ⟨w.heap.size, 0, none⟩) 2 2] (w.alloc (.cells #[.slice (some ⟨b, off, none⟩) K (K + 1), .slice (some ⟨b, off, none⟩) (l.length - (K + 1)) 0] 27)).drew fun e w' => ∃ a4 cap4, e = .returned (.slice a4 o.length cap4) ∧ Ents w' a4 cap4 o ∧ Below w.heap.size w w') := by
      refine HCC.out.mono ?_
      rintro e w' ⟨a4, cap4, rfl, h4, hb⟩
      exact ⟨a4, cap4, rfl, h4, (show Below w.heap.size w _ from ((Below.refl _ _).alloc (Nat.le_refl _) _).drew).trans (hb.mono (by simp))⟩
    clear HCC
    go_enter Tryz.func107, Tryz.ntmps107
    go_wp2_with fail
    go_region_held3 (fun _ => True) (trivial) (first
      | (go_at_call 147; with_reducible refine (HA1.out).mono ?_; rintro e w4 ⟨a4, cap4, rfl, h4, hB4⟩))
    all_goals
      have HB4 := Lib.hid hB4
      have HE4 := Lib.hid h4
      clear h4 hB4
      go_wp2
      go_ret
      exact ⟨a4, cap4, rfl, HE4.out, HB4.out⟩

  · have HCC := Lib.hid (concat9 [l.take K, l.drop (K + 1)] _ _ _ ((stk2_new w (some ⟨b, off, none⟩) (some ⟨b, off + (K + 1) * 3, none⟩) cap (cap - (K + 1)) (l.take K) (l.drop (K + 1)) (Ents.take HE.out K) (Ents.drop HE.out (K + 1) (by omega))).drew) (by simp) (by rw [← HOF.out]; have := HOL.out; omega))
    simp only [← HOF.out] at HCC
    rw [List.length_take, List.length_drop, Nat.min_eq_left (show K ≤ l.length by omega)] at HCC
    have HA1 : Hid (Calls Tryz.prog 147 #[.slice (some ⟨w.heap.size, 0, none⟩) 2 2] (w.alloc (.cells #[.slice (some ⟨b, off, none⟩) K cap, .slice (some ⟨b, off + (K + 1) * 3, none⟩) (l.length - (K + 1)) (cap - (K + 1))] 27)).drew fun e w' => ∃ a4 cap4, e = .returned (.slice a4 o.length cap4) ∧ Ents w' a4 cap4 o ∧ Below w.heap.size w w') := by
      refine HCC.out.mono ?_
      rintro e w' ⟨a4, cap4, rfl, h4, hb⟩
      exact ⟨a4, cap4, rfl, h4, (show Below w.heap.size w _ from ((Below.refl _ _).alloc (Nat.le_refl _) _).drew).trans (hb.mono (by simp))⟩
    clear HCC
    go_enter Tryz.func107, Tryz.ntmps107
    go_wp2_with fail
    go_region_held3 (fun _ => True) (trivial) (first
      | (go_at_call 147; with_reducible refine (HA1.out).mono ?_; rintro e w4 ⟨a4, cap4, rfl, h4, hB4⟩))
    all_goals
      have HB4 := Lib.hid hB4
      have HE4 := Lib.hid h4
      clear h4 hB4
      go_wp2
      go_ret
      exact ⟨a4, cap4, rfl, HE4.out, HB4.out⟩

set_option maxRecDepth 10000 in
set_option maxHeartbeats 8000000 in
theorem with11 (l : List Ent) (a : Option Addr) (cap : Nat) (x : Ent) (w : World) (h : Ents w a cap l) (hA : Asc l) (hl : l.length ≤ 1000) (hf : fnd l (pl x) = none) : Calls Tryz.prog 111 #[.slice a l.length cap, enV x] w fun e w' => ∃ a' cap', e = .returned (.slice a' (wth l x).length cap') ∧ Ents w' a' cap' (wth l x) ∧ Below w.heap.size w w' := by
  obtain ⟨W, hW⟩ : ∃ W, w.alloc (.cells #[.string x.1, .int .i64 x.2.1, .string x.2.2] 46) = W := ⟨_, rfl⟩
  obtain ⟨N, hN⟩ : ∃ N, w.heap.size = N := ⟨_, rfl⟩
  have hb0 : Below w.heap.size w W := by rw [← hW]; exact (Below.refl _ _).alloc (Nat.le_refl _) _
  have HE := Lib.hid (RowN.below h hb0)
  have HR0 := Lib.hid (show EnAt W N x.1 x.2.1 x.2.2 by rw [← hW, ← hN]; exact enAt_new _ _ _ _)
  have HB0 := Lib.hid hb0
  have c0 := HR0.out.c0
  have c1 := HR0.out.c1
  have c2 := HR0.out.c2
  have HPC := Lib.hid (place11 l a cap x.1 W HE.out hA hl)
  rw [show (fnd l x.1.data.toList).isSome = false by rw [show fnd l x.1.data.toList = none from hf]; rfl] at HPC
  have HWO := Lib.hid (wth_new hA hf)
  have HOL := Lib.hid (show (wth l x).length ≤ 1001 by have := wth_le l x; omega)
  obtain ⟨K, hK⟩ : ∃ K, plc l (pl x) = K := ⟨_, rfl⟩
  rw [show plc l x.1.data.toList = K from hK] at HPC
  have HKL := Lib.hid (show K ≤ l.length by rw [← hK]; exact plc_le _ _)
  obtain ⟨o, ho⟩ : ∃ o, wth l x = o := ⟨_, rfl⟩
  rw [ho, hK] at HWO
  rw [ho] at HOL ⊢
  have HL := Lib.hid hl
  have HCAP := Lib.hid h.1
  clear h hA hl hf ho hb0
  go_enter Tryz.func111, Tryz.ntmps111
  go_wp2_with fail
  refine (HPC.out).mono ?_
  rintro e w3 ⟨rfl, hb⟩
  have HB3 := Lib.hid (HB0.out.trans (hb.mono HB0.out.size))
  have HE3 := Lib.hid (RowN.below HE.out hb)
  have HR3 := Lib.hid (HR0.out.below hb)
  clear hb c0 c1 c2
  have c0 := HR3.out.c0
  have c1 := HR3.out.c1
  have c2 := HR3.out.c2
  have HKS : Hid (∀ X, Below w3.heap.size w3 X → X.cell? ⟨N, 0, none⟩ = some (.string x.1) ∧ X.cell? ⟨N, 1, none⟩ = some (.int .i64 x.2.1) ∧ X.cell? ⟨N, 2, none⟩ = some (.string x.2.2)) := fun X hX => ⟨(HR3.out.below hX).c0, (HR3.out.below hX).c1, (HR3.out.below hX).c2⟩
  have HOF := Lib.hid (show o = [l.take K, [x], l.drop K].flatten by rw [HWO.out]; simp)
  have HL1 := Lib.hid (show (l.take K).length = K by rw [List.length_take]; have := HKL.out; omega)
  have HL3 := Lib.hid (show (l.drop K).length = l.length - K by rw [List.length_drop])
  have k1 : (K : Int) ≤ (cap : Int) := by have := HCAP.out; have := HKL.out; omega
  have k2 : (K : Int) ≤ (l.length : Int) := by have := HKL.out; omega
  have k6 : (l.length : Int) ≤ (cap : Int) := by have := HCAP.out; omega
  by_cases hl0 : l = []
  · subst hl0
    obtain rfl : K = 0 := by rw [← hK]; rfl
    clear hK
    have HOF0 := Lib.hid (show o = [([] : List Ent), [x], []].flatten by rw [HWO.out]; rfl)
    clear HOF
    have HOF := HOF0
    have HL10 := Lib.hid (show ([] : List Ent).length = 0 from rfl)
    clear HL1 HL3
    rcases a with _ | ⟨b, off, sp⟩
    · have HST := Lib.hid (stk3_new w3 none none cap cap ([] : List Ent) ([] : List Ent) x (ents_nil _ _ _) (ents_nil _ _ _))
      have HCC := Lib.hid (concat9 [([] : List Ent), [x], ([] : List Ent)] _ _ _ HST.out.1 (by simp) (by rw [← HOF.out]; have := HOL.out; omega))
      have HBW := Lib.hid HST.out.2
      simp only [← HOF.out] at HCC
      rw [HL10.out] at HCC HBW
      have HA1 : Hid (Calls Tryz.prog 147 #[.slice (some ⟨w3.heap.size + 1, 0, none⟩) 3 3] (W3 w3 none none 0 0 cap cap x) fun e w' => ∃ a4 cap4, e = .returned (.slice a4 o.length cap4) ∧ Ents w' a4 cap4 o ∧ Below w3.heap.size w3 w') := by
        refine HCC.out.mono ?_
        rintro e w' ⟨a4, cap4, rfl, h4, hb⟩
        exact ⟨a4, cap4, rfl, h4, HBW.out.trans (hb.mono HBW.out.size)⟩
      unfold W3 at HA1
      clear HCC HBW HST
      go_wp2_with fail
      go_region_held3 (fun X => X.cell? ⟨N, 0, none⟩ = some (.string x.1) ∧ X.cell? ⟨N, 1, none⟩ = some (.int .i64 x.2.1) ∧ X.cell? ⟨N, 2, none⟩ = some (.string x.2.2))
        ((with_reducible refine HKS.out _ ?_; (first | with_reducible assumption | with_reducible exact Below.refl _ _ | with_reducible exact (Below.refl _ _).drew | with_reducible exact (Below.refl _ _).alloc (Nat.le_refl _) _ | with_reducible exact ((Below.refl _ _).drew).alloc (Nat.le_refl _) _ | with_reducible exact ((Below.refl _ _).alloc (Nat.le_refl _) _).drew | exact (((Below.refl _ _).alloc (Nat.le_refl _) _).alloc (by simp) _) | exact (((Below.refl _ _).alloc (Nat.le_refl _) _).alloc (by simp) _).drew)))
        (first
        | (go_at_call 147; with_reducible refine (HA1.out).mono ?_; rintro e w4 ⟨a4, cap4, rfl, h4, hB4⟩))
      all_goals
        have HB5 := Lib.hid (HB3.out.trans (hB4.mono HB3.out.size))
        have HE5 := Lib.hid h4
        clear h4 hB4
        go_wp2
        go_ret
        exact ⟨a4, cap4, rfl, HE5.out, HB5.out⟩

    · have HST := Lib.hid (stk3_new w3 (some ⟨b, off, sp⟩) (some ⟨b, off, sp⟩) cap cap ([] : List Ent) ([] : List Ent) x (ents_nil _ _ _) (ents_nil _ _ _))
      have HCC := Lib.hid (concat9 [([] : List Ent), [x], ([] : List Ent)] _ _ _ HST.out.1 (by simp) (by rw [← HOF.out]; have := HOL.out; omega))
      have HBW := Lib.hid HST.out.2
      simp only [← HOF.out] at HCC
      rw [HL10.out] at HCC HBW
      have HA1 : Hid (Calls Tryz.prog 147 #[.slice (some ⟨w3.heap.size + 1, 0, none⟩) 3 3] (W3 w3 (some ⟨b, off, sp⟩) (some ⟨b, off, sp⟩) 0 0 cap cap x) fun e w' => ∃ a4 cap4, e = .returned (.slice a4 o.length cap4) ∧ Ents w' a4 cap4 o ∧ Below w3.heap.size w3 w') := by
        refine HCC.out.mono ?_
        rintro e w' ⟨a4, cap4, rfl, h4, hb⟩
        exact ⟨a4, cap4, rfl, h4, HBW.out.trans (hb.mono HBW.out.size)⟩
      unfold W3 at HA1
      clear HCC HBW HST
      go_wp2_with fail
      go_region_held3 (fun X => X.cell? ⟨N, 0, none⟩ = some (.string x.1) ∧ X.cell? ⟨N, 1, none⟩ = some (.int .i64 x.2.1) ∧ X.cell? ⟨N, 2, none⟩ = some (.string x.2.2))
        ((with_reducible refine HKS.out _ ?_; (first | with_reducible assumption | with_reducible exact Below.refl _ _ | with_reducible exact (Below.refl _ _).drew | with_reducible exact (Below.refl _ _).alloc (Nat.le_refl _) _ | with_reducible exact ((Below.refl _ _).drew).alloc (Nat.le_refl _) _ | with_reducible exact ((Below.refl _ _).alloc (Nat.le_refl _) _).drew | exact (((Below.refl _ _).alloc (Nat.le_refl _) _).alloc (by simp) _) | exact (((Below.refl _ _).alloc (Nat.le_refl _) _).alloc (by simp) _).drew)))
        (first
        | (go_at_call 147; with_reducible refine (HA1.out).mono ?_; rintro e w4 ⟨a4, cap4, rfl, h4, hB4⟩))
      all_goals
        have HB5 := Lib.hid (HB3.out.trans (hB4.mono HB3.out.size))
        have HE5 := Lib.hid h4
        clear h4 hB4
        go_wp2
        go_ret
        exact ⟨a4, cap4, rfl, HE5.out, HB5.out⟩

  · obtain ⟨b, off, rfl, _, _⟩ := Ents.at HE3.out (Below.refl _ _) (show 0 < l.length from List.length_pos_iff.2 hl0)
    clear hK
    by_cases hcap : cap = K
    · subst hcap
      have HST := Lib.hid (stk3_new w3 (some ⟨b, off, none⟩) (some ⟨b, off, none⟩) cap 0 (l.take cap) (l.drop cap) x (Ents.take HE3.out cap) (by rw [List.drop_eq_nil_iff.2 HCAP.out]; exact ents_nil _ _ _))
      have HCC := Lib.hid (concat9 [(l.take cap), [x], (l.drop cap)] _ _ _ HST.out.1 (by simp) (by rw [← HOF.out]; have := HOL.out; omega))
      have HBW := Lib.hid HST.out.2
      simp only [← HOF.out] at HCC
      rw [HL1.out, HL3.out] at HCC HBW
      have HA1 : Hid (Calls Tryz.prog 147 #[.slice (some ⟨w3.heap.size + 1, 0, none⟩) 3 3] (W3 w3 (some ⟨b, off, none⟩) (some ⟨b, off, none⟩) cap (l.length - cap) cap 0 x) fun e w' => ∃ a4 cap4, e = .returned (.slice a4 o.length cap4) ∧ Ents w' a4 cap4 o ∧ Below w3.heap.size w3 w') := by
        refine HCC.out.mono ?_
        rintro e w' ⟨a4, cap4, rfl, h4, hb⟩
        exact ⟨a4, cap4, rfl, h4, HBW.out.trans (hb.mono HBW.out.size)⟩
      unfold W3 at HA1
      clear HCC HBW HST
      go_wp2_with fail
      go_region_held3 (fun X => X.cell? ⟨N, 0, none⟩ = some (.string x.1) ∧ X.cell? ⟨N, 1, none⟩ = some (.int .i64 x.2.1) ∧ X.cell? ⟨N, 2, none⟩ = some (.string x.2.2))
        ((with_reducible refine HKS.out _ ?_; (first | with_reducible assumption | with_reducible exact Below.refl _ _ | with_reducible exact (Below.refl _ _).drew | with_reducible exact (Below.refl _ _).alloc (Nat.le_refl _) _ | with_reducible exact ((Below.refl _ _).drew).alloc (Nat.le_refl _) _ | with_reducible exact ((Below.refl _ _).alloc (Nat.le_refl _) _).drew | exact (((Below.refl _ _).alloc (Nat.le_refl _) _).alloc (by simp) _) | exact (((Below.refl _ _).alloc (Nat.le_refl _) _).alloc (by simp) _).drew)))
        (first
        | (go_at_call 147; with_reducible refine (HA1.out).mono ?_; rintro e w4 ⟨a4, cap4, rfl, h4, hB4⟩))
      all_goals
        have HB5 := Lib.hid (HB3.out.trans (hB4.mono HB3.out.size))
        have HE5 := Lib.hid h4
        clear h4 hB4
        go_wp2
        go_ret
        exact ⟨a4, cap4, rfl, HE5.out, HB5.out⟩

    · have HST := Lib.hid (stk3_new w3 (some ⟨b, off, none⟩) (some ⟨b, off + K * 3, none⟩) cap (cap - K) (l.take K) (l.drop K) x (Ents.take HE3.out K) (Ents.drop HE3.out K HKL.out))
      have HCC := Lib.hid (concat9 [(l.take K), [x], (l.drop K)] _ _ _ HST.out.1 (by simp) (by rw [← HOF.out]; have := HOL.out; omega))
      have HBW := Lib.hid HST.out.2
      simp only [← HOF.out] at HCC
      rw [HL1.out, HL3.out] at HCC HBW
      have HA1 : Hid (Calls Tryz.prog 147 #[.slice (some ⟨w3.heap.size + 1, 0, none⟩) 3 3] (W3 w3 (some ⟨b, off, none⟩) (some ⟨b, off + K * 3, none⟩) K (l.length - K) cap (cap - K) x) fun e w' => ∃ a4 cap4, e = .returned (.slice a4 o.length cap4) ∧ Ents w' a4 cap4 o ∧ Below w3.heap.size w3 w') := by
        refine HCC.out.mono ?_
        rintro e w' ⟨a4, cap4, rfl, h4, hb⟩
        exact ⟨a4, cap4, rfl, h4, HBW.out.trans (hb.mono HBW.out.size)⟩
      unfold W3 at HA1
      clear HCC HBW HST
      go_wp2_with fail
      go_region_held3 (fun X => X.cell? ⟨N, 0, none⟩ = some (.string x.1) ∧ X.cell? ⟨N, 1, none⟩ = some (.int .i64 x.2.1) ∧ X.cell? ⟨N, 2, none⟩ = some (.string x.2.2))
        ((with_reducible refine HKS.out _ ?_; (first | with_reducible assumption | with_reducible exact Below.refl _ _ | with_reducible exact (Below.refl _ _).drew | with_reducible exact (Below.refl _ _).alloc (Nat.le_refl _) _ | with_reducible exact ((Below.refl _ _).drew).alloc (Nat.le_refl _) _ | with_reducible exact ((Below.refl _ _).alloc (Nat.le_refl _) _).drew | exact (((Below.refl _ _).alloc (Nat.le_refl _) _).alloc (by simp) _) | exact (((Below.refl _ _).alloc (Nat.le_refl _) _).alloc (by simp) _).drew)))
        (first
        | (go_at_call 147; with_reducible refine (HA1.out).mono ?_; rintro e w4 ⟨a4, cap4, rfl, h4, hB4⟩))
      all_goals
        have HB5 := Lib.hid (HB3.out.trans (hB4.mono HB3.out.size))
        have HE5 := Lib.hid h4
        clear h4 hB4
        go_wp2
        go_ret
        exact ⟨a4, cap4, rfl, HE5.out, HB5.out⟩

end Go.Proofs.YtjliagcalbdnhaaGreatDoor

namespace Go.Proofs.YtjliagcalbdnhaaGreatDoor
open Go.RowKit

/-- What lies at a path of a tree; of nothing the kind is 0. -/
def lyE (t : List Ent) (p : List UInt8) : Ent := if p = [47] then (⟨#[47]⟩, 2, ⟨#[]⟩) else (fnd t p).getD (⟨#[]⟩, 0, ⟨#[]⟩)
/-- Why what lies there isn't of a kind; 0: it is. -/
def othV (a k : Int) : Int := if a = k then 0 else if a = 2 then 5 else 6
/-- Why a path is no place of an entry; 0: it is. -/
def hsV (p : List UInt8) : Int := if ¬ isP p then 2 else if p = [47] then 1 else 0
/-- Why there is nothing of a kind at a path; 0: there is. -/
def stK11 (t : List Ent) (p : List UInt8) (k : Int) : Int := if hsV p ≠ 0 then hsV p else match fnd t p with
  | none => 3
  | some e => othV e.2.1 k
theorem plcV_ly {t : List Ent} (ht : TR t) (p : List UInt8) : plcV t p = if hsV p ≠ 0 then hsV p else if (lyE t (par9 p)).2.1 = 0 then 3 else if (lyE t (par9 p)).2.1 = 1 then 6 else if (lyE t p).2.1 ≠ 0 then 4 else 0 := by
  unfold plcV hsV
  by_cases h1 : isP p
  · rw [if_neg (not_not_intro h1), if_neg (not_not_intro h1)]
    by_cases h2 : p = [47]
    · rw [if_pos h2, if_pos h2]; rfl
    · rw [if_neg h2, if_neg h2]
      have h7 : isP (par9 p) := (par9_isP h1 h2).1
      have hK : ∀ e ∈ t, e.2.1 = 1 ∨ e.2.1 = 2 := fun e he => by
        have := kind_of (ht.1.1 e he)
        have := ht.2 e he
        omega
      have e1 : (fnd t p).isSome = true ↔ (lyE t p).2.1 ≠ 0 := by
        unfold lyE
        rw [if_neg h2]
        cases hf : fnd t p with
        | none => simp
        | some e =>
          obtain ⟨h8, _⟩ := (fnd_some ht.1.2.1).1 hf
          rcases hK e h8 with h | h <;> simp [h]
      have e2 : kdV t (par9 p) = if (lyE t (par9 p)).2.1 = 0 then (3, 0) else (0, (lyE t (par9 p)).2.1) := by
        unfold kdV lyE
        rw [if_neg (not_not_intro h7)]
        by_cases h6 : par9 p = [47]
        · rw [if_pos h6, if_pos h6]; rfl
        · rw [if_neg h6, if_neg h6]
          cases hf : fnd t (par9 p) with
          | none => rfl
          | some e =>
            obtain ⟨h8, _⟩ := (fnd_some ht.1.2.1).1 hf
            rcases hK e h8 with h | h <;> simp [h]
      have e3 : (lyE t (par9 p)).2.1 = 0 ∨ (lyE t (par9 p)).2.1 = 1 ∨ (lyE t (par9 p)).2.1 = 2 := by
        unfold lyE
        by_cases h6 : par9 p = [47]
        · rw [if_pos h6]; simp
        · rw [if_neg h6]
          cases hf : fnd t (par9 p) with
          | none => simp
          | some e =>
            obtain ⟨h8, _⟩ := (fnd_some ht.1.2.1).1 hf
            exact .inr (hK e h8)
      rw [e2]
      by_cases h9 : (lyE t p).2.1 = 0
      · have h10 : ¬ (fnd t p).isSome = true := fun h => e1.1 h h9
        rcases e3 with h | h | h <;> simp [h, h9, h10]
      · have h10 := e1.2 h9
        rcases e3 with h | h | h <;> simp [h, h9, h10]
  · rw [if_pos h1, if_pos h1]; rfl
theorem flV_st {t : List Ent} (ht : TR t) (p : List UInt8) : stK11 t p 1 = flV t p := by
  unfold stK11 hsV flV
  by_cases h1 : isP p
  · rw [if_neg (not_not_intro h1), if_neg (not_not_intro h1)]
    by_cases h2 : p = [47]
    · rw [if_pos h2, if_pos h2]; rfl
    · rw [if_neg h2, if_neg h2]
      cases hf : fnd t p with
      | none => rfl
      | some e =>
        obtain ⟨h8, _⟩ := (fnd_some ht.1.2.1).1 hf
        have := kind_of (ht.1.1 e h8)
        have := ht.2 e h8
        have : e.2.1 = 1 ∨ e.2.1 = 2 := by omega
        rcases this with h | h <;> simp [h, othV]
  · rw [if_pos h1, if_pos h1]; rfl
set_option maxRecDepth 10000 in
set_option maxHeartbeats 1000000 in
theorem other11 (x : Ent) (k : Int) (w : World) : Calls Tryz.prog 87 #[enV x, .int .i64 k] w fun e w' => ∃ er, e = .returned er ∧ Er w' (othV x.2.1 k) er ∧ Below w.heap.size w w' := by
  obtain ⟨W, hW⟩ : ∃ W, w.alloc (.cells #[.string x.1, .int .i64 x.2.1, .string x.2.2] 46) = W := ⟨_, rfl⟩
  obtain ⟨N, hN⟩ : ∃ N, w.heap.size = N := ⟨_, rfl⟩
  have HB := Lib.hid (show Below w.heap.size w W by rw [← hW]; exact (Below.refl _ _).alloc (Nat.le_refl _) _)
  have HR := Lib.hid (show EnAt W N x.1 x.2.1 x.2.2 by rw [← hW, ← hN]; exact enAt_new _ _ _ _)
  have c0 := HR.out.c0
  have c1 := HR.out.c1
  have c2 := HR.out.c2
  by_cases h1 : x.2.1 = k
  · have HV := Lib.hid (show othV x.2.1 k = 0 from if_pos h1)
    have g1 : (x.2.1 == k) = true := beq_iff_eq.2 h1
    clear h1
    go_enter Tryz.func87, Tryz.ntmps87
    go_wp2
    go_ret
    exact ⟨_, rfl, by rw [HV.out]; exact er_nil _, HB.out⟩
  · have g1 : (x.2.1 == k) = false := beq_eq_false_iff_ne.2 h1
    by_cases h2 : x.2.1 = 2
    · have HV := Lib.hid (show othV x.2.1 k = 5 by unfold othV; rw [if_neg h1, if_pos h2])
      have g2 : (x.2.1 == 2) = true := beq_iff_eq.2 h2
      clear h1 h2
      go_enter Tryz.func87, Tryz.ntmps87
      go_wp2
      go_ret
      exact ⟨_, rfl, by rw [HV.out]; exact er_no11 _ _ (by decide), HB.out⟩
    · have HV := Lib.hid (show othV x.2.1 k = 6 by unfold othV; rw [if_neg h1, if_neg h2])
      have g2 : (x.2.1 == 2) = false := beq_eq_false_iff_ne.2 h2
      clear h1 h2
      go_enter Tryz.func87, Tryz.ntmps87
      go_wp2
      go_ret
      exact ⟨_, rfl, by rw [HV.out]; exact er_no11 _ _ (by decide), HB.out⟩
theorem results_cell11 {fn : Func} {p : Tmp} {ty : TypeId} (h : fn.results = #[.cell p ty]) (tmps : Array Value) (P : Program) (w : World) :
    (results fn tmps).run P w = ((asAddr (tmps.getD p undef)).run P w).andThen fun a w₁ => (loadVar ty a).run P w₁ := by
  simp only [results, h]
  simp [Sem.run_bind, Result.andThen]
set_option maxRecDepth 10000 in
set_option maxHeartbeats 1000000 in
theorem lying11 (t : List Ent) (a : Option Addr) (cap : Nat) (p : ByteArray) (w : World) (h : Ents w a cap t) (hA : Asc t) (hl : t.length ≤ 1000) :
    Calls Tryz.prog 123 #[.slice a t.length cap, .string p] w fun e w' => e = .returned (enV (lyE t p.data.toList)) ∧ Below w.heap.size w w' := by
  obtain ⟨V, hV⟩ : ∃ V, w.alloc (.cells #[.string ⟨#[]⟩, .int .i64 0, .string ⟨#[]⟩] 46) = V := ⟨_, rfl⟩
  obtain ⟨O, hO⟩ : ∃ O, w.heap.size = O := ⟨_, rfl⟩
  have hb1 : Below w.heap.size w V := by rw [← hV]; exact (Below.refl _ _).alloc (Nat.le_refl _) _
  have HR := Lib.hid (show EnAt V O ⟨#[]⟩ 0 ⟨#[]⟩ by rw [← hV, ← hO]; exact enAt_new _ _ _ _)
  have HOW := Lib.hid (show w.heap.size ≤ O by omega)
  have HB := Lib.hid hb1
  have HE := Lib.hid (RowN.below h hb1)
  have HC := Lib.hid (place11 t a cap p V HE.out hA hl)
  have HPS := Lib.hid (fun x (hx : fnd t p.data.toList = some x) => plc_some hA hx)
  clear h hA hl hb1
  by_cases h1 : p.data.toList = [47]
  · have g1 : (p.toList == [47]) = true := by rw [Lib.toList_data, beq_iff_eq]; exact h1
    have HV := Lib.hid (show lyE t p.data.toList = (⟨#[47]⟩, 2, ⟨#[]⟩) from if_pos h1)
    have r0 := HR.out.c0
    have r1 := HR.out.c1
    have r2 := HR.out.c2
    have f0 := HR.out.f0
    have f1 := HR.out.f1
    have f2 := HR.out.f2
    clear h1
    go_enter Tryz.func123, Tryz.ntmps123
    go_wp2
    have hld := lv_en (HR.out.set ⟨#[47]⟩ 2 ⟨#[]⟩)
    refine bodyPost_ret (v := entV ⟨#[47]⟩ 2 ⟨#[]⟩) ?_ rfl ⟨by rw [HV.out], below_en3 HB.out HOW.out _ _ _⟩
    rw [results_cell11 rfl]
    simp [asAddr, Result.andThen, hld]
  · have g1 : (p.toList == [47]) = false := by rw [Lib.toList_data, beq_eq_false_iff_ne]; exact h1
    have HV := Lib.hid (show lyE t p.data.toList = (fnd t p.data.toList).getD (⟨#[]⟩, 0, ⟨#[]⟩) from if_neg h1)
    clear h1
    cases hf : fnd t p.data.toList with
    | none =>
      rw [hf] at HC HV
      rw [show (none : Option Ent).isSome = false from rfl] at HC
      clear hf
      go_enter Tryz.func123, Tryz.ntmps123
      go_wp2_with fail
      refine (HC.out).mono ?_
      rintro e w1 ⟨rfl, hb⟩
      have HB1 := Lib.hid (HB.out.trans (hb.mono HB.out.size))
      have HR1 := Lib.hid (HR.out.below hb)
      have r0 := HR1.out.c0
      have r1 := HR1.out.c1
      have r2 := HR1.out.c2
      have f0 := HR1.out.f0
      have f1 := HR1.out.f1
      have f2 := HR1.out.f2
      clear hb
      go_wp2
      have hld := lv_en (HR1.out.set ⟨#[]⟩ 0 ⟨#[]⟩)
      refine bodyPost_ret (v := entV ⟨#[]⟩ 0 ⟨#[]⟩) ?_ rfl ⟨by rw [HV.out]; rfl, below_en3 HB1.out HOW.out _ _ _⟩
      rw [results_cell11 rfl]
      simp [asAddr, Result.andThen, hld]
    | some x =>
      rw [hf] at HC HV
      obtain ⟨hk, hx, _⟩ := HPS.out x hf
      rw [show (some x).isSome = true from rfl] at HC
      obtain ⟨K, hK⟩ : ∃ K, plc t p.data.toList = K := ⟨_, rfl⟩
      simp only [hK] at hk hx
      rw [hK] at HC
      have hk' : (K : Int) < (t.length : Int) := by omega
      go_enter Tryz.func123, Tryz.ntmps123
      go_wp2_with fail
      refine (HC.out).mono ?_
      rintro e w1 ⟨rfl, hb⟩
      have HB1 := Lib.hid (HB.out.trans (hb.mono HB.out.size))
      have HR1 := Lib.hid (HR.out.below hb)
      obtain ⟨b, off, rfl, _, hc⟩ := Ents.at HE.out hb hk
      rw [hx] at hc
      have c0 := hc.c0
      have c1 := hc.c1
      have c2 := hc.c2
      have r0 := HR1.out.c0
      have r1 := HR1.out.c1
      have r2 := HR1.out.c2
      have f0 := HR1.out.f0
      have f1 := HR1.out.f1
      have f2 := HR1.out.f2
      clear hb hc hx hf hK HPS
      go_wp2
      have hld := lv_en (HR1.out.set x.1 x.2.1 x.2.2)
      refine bodyPost_ret (v := enV x) ?_ rfl ⟨by rw [HV.out]; rfl, below_en3 HB1.out HOW.out _ _ _⟩
      rw [results_cell11 rfl]
      simp [asAddr, Result.andThen, hld]
set_option maxRecDepth 10000 in
set_option maxHeartbeats 1000000 in
theorem house11 (t : List Ent) (a : Option Addr) (cap : Nat) (p : ByteArray) (w : World) (h : Ents w a cap t) (ht : TreeL t) (hl : t.length ≤ 900) (hp : p.size ≤ 100000) :
    Calls Tryz.prog 116 #[.slice a t.length cap, .string p] w fun e w' => ∃ d er, e = .returned (.tuple #[.string d, er]) ∧ Er w' (hsV p.data.toList) er ∧ (hsV p.data.toList = 0 → d.data.toList = par9 p.data.toList) ∧ Below w.heap.size w w' := by
  have HC := Lib.hid (tree10 t a cap w h (sm_tree ht (by omega)))
  rw [decide_eq_true ht] at HC
  have HP : Hid (∀ W, Calls Tryz.prog 38 #[.string p] W fun e w' => ∃ d n er, e = .returned (.tuple #[.string d, .string n, er]) ∧ Er w' (hsV p.data.toList) er ∧ (hsV p.data.toList = 0 → d.data.toList = par9 p.data.toList) ∧ Below W.heap.size W w') := fun W => by
    by_cases h1 : isP p.data.toList
    · by_cases h2 : p.data.toList = [47]
      · obtain rfl : p = ⟨#[47]⟩ := ba_ext h2
        refine (parent_root W).mono ?_
        rintro e w' ⟨er, rfl, h3, hb⟩
        exact ⟨_, _, er, rfl, .inr ⟨by decide, h3⟩, fun h => absurd h (by decide), hb⟩
      · obtain ⟨ms, x, _, a2, _, a4, a5⟩ := par9_parts h1 h2
        refine (parent_good p ms x h1 a2 a4 h2 W).mono ?_
        have hv : hsV p.data.toList = 0 := by unfold hsV; rw [if_neg (not_not_intro h1), if_neg h2]
        rintro e w' ⟨d, n, rfl, h3, _, hb⟩
        exact ⟨d, n, _, rfl, by rw [hv]; exact er_nil _, fun _ => h3.trans a5.symm, hb⟩
    · have hv : hsV p.data.toList = 2 := if_pos h1
      refine (parent_bad p (by omega) h1 W).mono ?_
      rintro e w' ⟨er, rfl, h3, hb⟩
      exact ⟨_, _, er, rfl, by rw [hv]; exact .inr ⟨by decide, h3⟩, (fun h => by rw [hv] at h; cases h), hb⟩
  clear h ht hl hp
  go_enter Tryz.func116, Tryz.ntmps116
  go_wp2_with fail
  refine (HC.out).mono ?_
  rintro e w1 ⟨rfl, hb⟩
  have HB := Lib.hid hb
  clear hb
  go_wp2_with fail
  refine (HP.out _).mono ?_
  rintro e w2 ⟨d, n, er, rfl, h1, h2, hb⟩
  have HB2 := Lib.hid (HB.out.trans (hb.mono HB.out.size))
  have H1 := Lib.hid h1
  have H2 := Lib.hid h2
  clear hb h1 h2
  go_wp2
  go_ret2
  exact ⟨d, er, rfl, H1.out, H2.out, HB2.out⟩
end Go.Proofs.YtjliagcalbdnhaaGreatDoor

namespace Go.Proofs.YtjliagcalbdnhaaGreatDoor
open Go.RowKit

set_option maxRecDepth 10000 in
set_option maxHeartbeats 2000000 in
theorem standing11 (t : List Ent) (a : Option Addr) (cap : Nat) (p : ByteArray) (k : Int) (w : World) (h : Ents w a cap t) (ht : TreeL t) (hl : t.length ≤ 900) (hp : p.size ≤ 100000) :
    Calls Tryz.prog 83 #[.slice a t.length cap, .string p, .int .i64 k] w fun e w' => ∃ i er, e = .returned (.tuple #[.int .i64 i, er]) ∧ Er w' (stK11 t p.data.toList k) er ∧ (stK11 t p.data.toList k = 0 → i = (plc t p.data.toList : Nat)) ∧ Below w.heap.size w w' := by
  have HE := Lib.hid h
  have HH := Lib.hid (house11 t a cap p w h ht hl hp)
  have HP : Hid (∀ W, Below w.heap.size w W → _) := fun W hW => place11 t a cap p W (RowN.below HE.out hW) ht.2.1.2.1 (by omega)
  obtain ⟨K, hK⟩ : ∃ K, plc t p.data.toList = K := ⟨_, rfl⟩
  have HPS : Hid (∀ x, fnd t p.data.toList = some x → ∃ hk : K < t.length, t[K] = x) := fun x hx => by
    obtain ⟨h1, h2, _⟩ := plc_some ht.2.1.2.1 hx
    subst hK
    exact ⟨h1, h2⟩
  have HO := Lib.hid (fun (x : Ent) W => other11 x k W)
  have HSV := Lib.hid (show stK11 t p.data.toList k = _ from rfl)
  unfold stK11 at HSV
  obtain ⟨s, hs⟩ : ∃ s, stK11 t p.data.toList k = s := ⟨_, rfl⟩
  rw [show stK11 t p.data.toList k = s from hs]
  have HS : Hid (s = if hsV p.data.toList ≠ 0 then hsV p.data.toList else match fnd t p.data.toList with
    | none => 3
    | some e => othV e.2.1 k) := hs.symm
  rw [hK] at HP ⊢
  clear h ht hl hp HSV hs hK
  go_enter Tryz.func83, Tryz.ntmps83
  go_wp2_with fail
  refine (HH.out).mono ?_
  rintro e w1 ⟨d, er, rfl, her, _, hb⟩
  have HB1 := Lib.hid hb
  clear hb
  rcases her with ⟨h0, rfl⟩ | ⟨h0, herr⟩
  · have HS1 := Lib.hid (show s = match fnd t p.data.toList with
      | none => 3
      | some e => othV e.2.1 k by rw [HS.out, if_neg (not_not_intro h0)])
    clear h0 HS
    have HPL := Lib.hid (HP.out w1 HB1.out)
    clear HP
    cases hf : fnd t p.data.toList with
    | none =>
      rw [hf] at HPL HS1
      rw [show (none : Option Ent).isSome = false from rfl] at HPL
      clear hf
      go_wp2_with fail
      refine (HPL.out).mono ?_
      rintro e w2 ⟨rfl, hb⟩
      have HB2 := Lib.hid (HB1.out.trans (hb.mono HB1.out.size))
      clear hb
      go_wp2
      go_ret2
      exact ⟨_, _, rfl, by rw [HS1.out]; exact er_no11 _ _ (by decide), (fun h => by rw [HS1.out] at h; cases h), HB2.out⟩
    | some x =>
      obtain ⟨hk, hx⟩ := HPS.out x hf
      rw [hf] at HPL HS1
      rw [show (some x).isSome = true from rfl] at HPL
      have hk' : (K : Int) < (t.length : Int) := by omega
      clear hf HPS
      go_wp2_with fail
      refine (HPL.out).mono ?_
      rintro e w2 ⟨rfl, hb⟩
      have HB2 := Lib.hid (HB1.out.trans (hb.mono HB1.out.size))
      clear hb
      obtain ⟨b, off, rfl, _, hc⟩ := Ents.at HE.out HB2.out hk
      rw [hx] at hc
      have c0 := hc.c0
      have c1 := hc.c1
      have c2 := hc.c2
      clear hc hx
      go_wp2_with fail
      refine (HO.out x _).mono ?_
      rintro e w3 ⟨er, rfl, her, hb⟩
      have HB3 := Lib.hid (HB2.out.trans (hb.mono HB2.out.size))
      have HER := Lib.hid her
      clear hb her c0 c1 c2
      go_wp2
      go_ret2
      exact ⟨_, er, rfl, by rw [HS1.out]; exact HER.out, fun _ => rfl, HB3.out⟩
  · have HS1 := Lib.hid (show s = hsV p.data.toList by rw [HS.out, if_pos h0])
    obtain ⟨u, y, rfl⟩ := herr.iface
    have HER := Lib.hid herr
    have H0 := Lib.hid h0
    clear herr HS h0 HP
    go_wp2
    go_ret2
    exact ⟨_, _, rfl, by rw [HS1.out]; exact .inr ⟨H0.out, HER.out⟩, (fun h => by rw [HS1.out] at h; exact absurd h H0.out), HB1.out⟩
theorem field_kind (E : Ent) (w : World) : (Instr.field 46 (enV E) 1).run Tryz.prog w = .ok (.int .i64 E.2.1) w := by kernel_rfl
attribute [local go_sem] field_kind in
set_option maxRecDepth 10000 in
set_option maxHeartbeats 4000000 in
theorem vacant11 (t : List Ent) (a : Option Addr) (cap : Nat) (p : ByteArray) (w : World) (h : Ents w a cap t) (ht : TreeL t) (hl : t.length ≤ 900) (hp : p.size ≤ 100000) :
    Calls Tryz.prog 110 #[.slice a t.length cap, .string p] w fun e w' => ∃ er, e = .returned er ∧ Er w' (plcV t p.data.toList) er ∧ Below w.heap.size w w' := by
  have HE := Lib.hid h
  have HH := Lib.hid (house11 t a cap p w h ht hl hp)
  have HL : Hid (∀ (q : ByteArray) W, Below w.heap.size w W → _) := fun q W hW => lying11 t a cap q W (RowN.below HE.out hW) ht.2.1.2.1 (by omega)
  have HS := Lib.hid (plcV_ly ht.2 p.data.toList)
  have HK := Lib.hid (show ∀ q, (lyE t q).2.1 = 0 ∨ (lyE t q).2.1 = 1 ∨ (lyE t q).2.1 = 2 from fun q => by
    unfold lyE
    split
    · simp
    · cases hf : fnd t q with
      | none => simp
      | some e =>
        obtain ⟨h8, _⟩ := (fnd_some ht.2.1.2.1).1 hf
        have h1 := kind_of (ht.2.1.1 e h8)
        have h2 := ht.2.2 e h8
        show e.2.1 = 0 ∨ e.2.1 = 1 ∨ e.2.1 = 2
        omega)
  obtain ⟨s, hs⟩ : ∃ s, plcV t p.data.toList = s := ⟨_, rfl⟩
  rw [hs] at HS ⊢
  clear h ht hl hp hs
  go_enter Tryz.func110, Tryz.ntmps110
  go_wp2_with fail
  refine (HH.out).mono ?_
  rintro e w1 ⟨d, er, rfl, her, hd, hb⟩
  have HB1 := Lib.hid hb
  clear hb
  rcases her with ⟨h0, rfl⟩ | ⟨h0, herr⟩
  · have HS1 := Lib.hid (show s = if (lyE t (par9 p.data.toList)).2.1 = 0 then 3 else if (lyE t (par9 p.data.toList)).2.1 = 1 then 6 else if (lyE t p.data.toList).2.1 ≠ 0 then 4 else 0 by rw [HS.out, if_neg (not_not_intro h0)])
    have HK1 := Lib.hid (HK.out (par9 p.data.toList))
    have HLD := Lib.hid (HL.out d w1 HB1.out)
    rw [hd h0] at HLD
    obtain ⟨E, hE⟩ : ∃ E, lyE t (par9 p.data.toList) = E := ⟨_, rfl⟩
    rw [hE] at HS1 HK1 HLD
    clear h0 hd HS hE
    go_wp2_with fail
    refine (HLD.out).mono ?_
    rintro e w2 ⟨rfl, hb⟩
    have HB2 := Lib.hid (HB1.out.trans (hb.mono HB1.out.size))
    clear hb
    rcases HK1.out with h1 | h1 | h1
    · have HV := Lib.hid (show s = 3 by rw [HS1.out, if_pos h1])
      have g1 : (E.2.1 == 0) = true := beq_iff_eq.2 h1
      clear h1
      go_wp2
      go_ret
      exact ⟨_, rfl, by rw [HV.out]; exact er_no11 _ _ (by decide), HB2.out⟩
    · have HV := Lib.hid (show s = 6 by rw [HS1.out, if_neg (by rw [h1]; decide), if_pos h1])
      have g1 : (E.2.1 == 0) = false := by rw [h1]; rfl
      have g2 : (E.2.1 == 1) = true := beq_iff_eq.2 h1
      clear h1
      go_wp2
      go_ret
      exact ⟨_, rfl, by rw [HV.out]; exact er_no11 _ _ (by decide), HB2.out⟩
    · have HS2 := Lib.hid (show s = if (lyE t p.data.toList).2.1 ≠ 0 then 4 else 0 by rw [HS1.out, if_neg (by rw [h1]; decide), if_neg (by rw [h1]; decide)])
      have g1 : (E.2.1 == 0) = false := by rw [h1]; rfl
      have g2 : (E.2.1 == 1) = false := by rw [h1]; rfl
      have HLP := Lib.hid (HL.out p w2 HB2.out)
      obtain ⟨F, hF⟩ : ∃ F, lyE t p.data.toList = F := ⟨_, rfl⟩
      rw [hF] at HS2 HLP
      clear h1 HS1 hF HL
      go_wp2_with fail
      refine (HLP.out).mono ?_
      rintro e w3 ⟨rfl, hb⟩
      have HB3 := Lib.hid (HB2.out.trans (hb.mono HB2.out.size))
      clear hb
      by_cases h3 : F.2.1 = 0
      · have HV := Lib.hid (show s = 0 by rw [HS2.out, if_neg (not_not_intro h3)])
        have g3 : (F.2.1 == 0) = true := beq_iff_eq.2 h3
        have g4 : (F.2.1 != 0) = false := by rw [bne, g3]; rfl
        clear h3
        go_wp2
        go_ret
        exact ⟨_, rfl, by rw [HV.out]; exact er_nil _, HB3.out⟩
      · have HV := Lib.hid (show s = 4 by rw [HS2.out, if_pos h3])
        have g3 : (F.2.1 == 0) = false := beq_eq_false_iff_ne.2 h3
        have g4 : (F.2.1 != 0) = true := by rw [bne, g3]; rfl
        clear h3
        go_wp2
        go_ret
        exact ⟨_, rfl, by rw [HV.out]; exact er_no11 _ _ (by decide), HB3.out⟩
  · have HS1 := Lib.hid (show s = hsV p.data.toList by rw [HS.out, if_pos h0])
    obtain ⟨u, y, rfl⟩ := herr.iface
    have HER := Lib.hid herr
    have H0 := Lib.hid h0
    clear herr HS h0 hd HL
    go_wp2
    go_ret
    exact ⟨_, rfl, by rw [HS1.out]; exact .inr ⟨H0.out, HER.out⟩, HB1.out⟩
/-- What made answers. -/
def mdV (t : List Ent) (x : Ent) : Int × List Ent := if plcV t (pl x) ≠ 0 then (plcV t (pl x), []) else (0, wth t x)
theorem mkV_md {t : List Ent} (hl : t.length ≤ 900) (p : ByteArray) (k : Int) : mkV t p k = mdV t (p, k, ⟨#[]⟩) := by
  unfold mkV mdV upTo
  have := wth_le t (p, k, ⟨#[]⟩)
  rw [if_neg (show ¬ 1024 < (wth t (p, k, ⟨#[]⟩)).length by omega)]
set_option maxRecDepth 10000 in
set_option maxHeartbeats 2000000 in
theorem made11 (t : List Ent) (a : Option Addr) (cap : Nat) (x : Ent) (w : World) (h : Ents w a cap t) (ht : TreeL t) (hl : t.length ≤ 900) (hp : x.1.size ≤ 100000) :
    Calls Tryz.prog 105 #[.slice a t.length cap, enV x] w (Ans11 (mdV t x) w) := by
  obtain ⟨W, hW⟩ : ∃ W, w.alloc (.cells #[.string x.1, .int .i64 x.2.1, .string x.2.2] 46) = W := ⟨_, rfl⟩
  obtain ⟨N, hN⟩ : ∃ N, w.heap.size = N := ⟨_, rfl⟩
  have hb0 : Below w.heap.size w W := by rw [← hW]; exact (Below.refl _ _).alloc (Nat.le_refl _) _
  have HE := Lib.hid (RowN.below h hb0)
  have HR0 := Lib.hid (show EnAt W N x.1 x.2.1 x.2.2 by rw [← hW, ← hN]; exact enAt_new _ _ _ _)
  have HB0 := Lib.hid hb0
  have HT := Lib.hid ht
  have HA := Lib.hid ht.2.1.2.1
  have c0 := HR0.out.c0
  have HC := Lib.hid (vacant11 t a cap x.1 W HE.out ht hl hp)
  rw [show x.1.data.toList = pl x from rfl] at HC
  have g64 : ((t.length : Int) == 1024) = false := by rw [beq_eq_false_iff_ne]; omega
  have HL := Lib.hid hl
  have HMV := Lib.hid (show mdV t x = if plcV t (pl x) ≠ 0 then (plcV t (pl x), []) else (0, wth t x) from rfl)
  obtain ⟨r, hr⟩ : ∃ r, mdV t x = r := ⟨_, rfl⟩
  rw [hr] at HMV ⊢
  clear h ht hl hp hb0 hr
  go_enter Tryz.func105, Tryz.ntmps105
  go_wp2_with fail
  refine (HC.out).mono ?_
  rintro e w1 ⟨er, rfl, her, hb⟩
  have HB1 := Lib.hid (HB0.out.trans (hb.mono HB0.out.size))
  have HE1 := Lib.hid (RowN.below HE.out hb)
  have HR1 := Lib.hid (HR0.out.below hb)
  clear hb c0
  rcases her with ⟨h0, rfl⟩ | ⟨h0, herr⟩
  · have HV := Lib.hid (show r = (0, wth t x) by rw [HMV.out, if_neg (not_not_intro h0)])
    have HW := Lib.hid (with11 t a cap x w1 HE1.out HA.out (by have := HL.out; omega) (plcV_ok HA.out h0).2.2.2)
    have c0 := HR1.out.c0
    have c1 := HR1.out.c1
    have c2 := HR1.out.c2
    clear h0 HMV
    go_wp2_with fail
    refine (HW.out).mono ?_
    rintro e w2 ⟨a', cap', rfl, h2, hb⟩
    have HB2 := Lib.hid (HB1.out.trans (hb.mono HB1.out.size))
    have H2 := Lib.hid h2
    clear hb h2 c0 c1 c2
    go_wp2
    go_ret2
    exact ⟨a', cap', .nilIface, by rw [HV.out]; rfl, by rw [HV.out]; exact H2.out, by rw [HV.out]; exact er_nil _, HB2.out⟩
  · have HV := Lib.hid (show r = (plcV t (pl x), []) by rw [HMV.out, if_pos h0])
    obtain ⟨u, y, rfl⟩ := herr.iface
    have HER := Lib.hid herr
    have H0 := Lib.hid h0
    clear herr HMV h0
    go_wp2
    go_ret2
    exact ⟨none, 0, _, by rw [HV.out]; rfl, by rw [HV.out]; exact ents_nil _ _ _, by rw [HV.out]; exact .inr ⟨H0.out, HER.out⟩, HB1.out⟩
set_option maxRecDepth 10000 in
set_option maxHeartbeats 2000000 in
theorem create11 (t : List Ent) (a : Option Addr) (cap : Nat) (p : ByteArray) (w : World) (h : Ents w a cap t) (ht : TreeL t) (hl : t.length ≤ 900) (hp : p.size ≤ 100000) :
    Calls Tryz.prog 64 #[.slice a t.length cap, .string p] w (Ans11 (mkV t p 1) w) := by
  rw [mkV_md hl]
  have HE := Lib.hid h
  have HC : Hid (∀ W, Below w.heap.size w W → _) := fun W hW => made11 t a cap (p, 1, ⟨#[]⟩) W (RowN.below HE.out hW) ht hl hp
  have HA := Lib.hid (fun o n v W h => at_er o p n v W h)
  obtain ⟨r, hr⟩ : ∃ r, mdV t (p, 1, ⟨#[]⟩) = r := ⟨_, rfl⟩
  rw [hr] at HC ⊢
  clear h ht hl hp hr
  go_enter Tryz.func64, Tryz.ntmps64
  go_wp2_with fail
  refine (HC.out _ (by first | exact Below.refl _ _ | exact (Below.refl _ _).alloc (Nat.le_refl _) _)).mono ?_
  rintro e w1 ⟨a', cap', er, rfl, h1, her, hb⟩
  have HB1 := Lib.hid (show Below w.heap.size w w1 by first | exact hb | exact ((Below.refl _ _).alloc (Nat.le_refl _) _).trans (hb.mono (by simp)))
  have H1 := Lib.hid h1
  have HER := Lib.hid her
  clear hb h1 her
  go_wp2_with fail
  refine (HA.out _ _ _ _ HER.out).mono ?_
  rintro e w2 ⟨er2, rfl, her, hb⟩
  have HB2 := Lib.hid (HB1.out.trans (hb.mono HB1.out.size))
  have H2 := Lib.hid (RowN.below H1.out hb)
  have HER2 := Lib.hid her
  clear hb her
  go_wp2
  go_ret2
  exact ⟨a', cap', er2, rfl, H2.out, HER2.out, HB2.out⟩
set_option maxRecDepth 10000 in
set_option maxHeartbeats 2000000 in
theorem mkdir11 (t : List Ent) (a : Option Addr) (cap : Nat) (p : ByteArray) (w : World) (h : Ents w a cap t) (ht : TreeL t) (hl : t.length ≤ 900) (hp : p.size ≤ 100000) :
    Calls Tryz.prog 66 #[.slice a t.length cap, .string p] w (Ans11 (mkV t p 2) w) := by
  rw [mkV_md hl]
  have HE := Lib.hid h
  have HC : Hid (∀ W, Below w.heap.size w W → _) := fun W hW => made11 t a cap (p, 2, ⟨#[]⟩) W (RowN.below HE.out hW) ht hl hp
  have HA := Lib.hid (fun o n v W h => at_er o p n v W h)
  obtain ⟨r, hr⟩ : ∃ r, mdV t (p, 2, ⟨#[]⟩) = r := ⟨_, rfl⟩
  rw [hr] at HC ⊢
  clear h ht hl hp hr
  go_enter Tryz.func66, Tryz.ntmps66
  go_wp2_with fail
  refine (HC.out _ (by first | exact Below.refl _ _ | exact (Below.refl _ _).alloc (Nat.le_refl _) _)).mono ?_
  rintro e w1 ⟨a', cap', er, rfl, h1, her, hb⟩
  have HB1 := Lib.hid (show Below w.heap.size w w1 by first | exact hb | exact ((Below.refl _ _).alloc (Nat.le_refl _) _).trans (hb.mono (by simp)))
  have H1 := Lib.hid h1
  have HER := Lib.hid her
  clear hb h1 her
  go_wp2_with fail
  refine (HA.out _ _ _ _ HER.out).mono ?_
  rintro e w2 ⟨er2, rfl, her, hb⟩
  have HB2 := Lib.hid (HB1.out.trans (hb.mono HB1.out.size))
  have H2 := Lib.hid (RowN.below H1.out hb)
  have HER2 := Lib.hid her
  clear hb her
  go_wp2
  go_ret2
  exact ⟨a', cap', er2, rfl, H2.out, HER2.out, HB2.out⟩
end Go.Proofs.YtjliagcalbdnhaaGreatDoor

namespace Go.Proofs.YtjliagcalbdnhaaGreatDoor
open Go.RowKit

theorem padL_take {s : List UInt8} {n : Nat} (h : n ≤ s.length) : padL s n = s.take n := by
  unfold padL
  rw [List.take_append_of_le_length h]
theorem padL_more {s : List UInt8} {n : Nat} (h : s.length ≤ n) : padL s n = s ++ List.replicate (n - s.length) 0 := by
  unfold padL
  rw [List.take_of_length_le]
  simp
  omega
theorem len_padL (s : List UInt8) (n : Nat) : (padL s n).length = n := by
  unfold padL
  simp
  omega
set_option maxRecDepth 10000 in
set_option maxHeartbeats 1000000 in
theorem sized11 (s : ByteArray) (n : Nat) (w : World) (hs : s.size ≤ 1000) (hn : n ≤ 1000) : Calls Tryz.prog 44 #[.string s, .int .i64 (n : Int)] w fun e w' => e = .returned (.string ⟨(padL s.data.toList n).toArray⟩) ∧ Below w.heap.size w w' := by
  by_cases h : n ≤ s.size
  · have g1 : (n : Int) ≤ (s.size : Int) := by omega
    have HV := Lib.hid (padL_take (s := s.data.toList) (n := n) (by rw [← Lib.size_eq]; exact h))
    go_enter Tryz.func44, Tryz.ntmps44
    have he : s.extract 0 n = ⟨(padL s.data.toList n).toArray⟩ := by
      refine ba_ext ?_
      rw [HV.out, Lib.extract_data]
      simp
    go_wp2
    go_ret
    exact ⟨by rw [← he]; rfl, Below.refl _ _⟩
  · have g1 : ¬ (n : Int) ≤ (s.size : Int) := by omega
    have HC := Lib.hid (fun W => Tryz.strings_Repeat ⟨#[0]⟩ (n - s.size) W (by omega) (by show 1 * _ ≤ _; omega))
    rw [show ((n - s.size : Nat) : Int) = (n : Int) - (s.size : Int) by omega] at HC
    have HV := Lib.hid (padL_more (s := s.data.toList) (n := n) (by rw [← Lib.size_eq]; omega))
    have HS := Lib.hid (Lib.size_eq s)
    obtain ⟨z, hz⟩ : ∃ z : ByteArray, ⟨(Lib.repeatL (⟨#[0]⟩ : ByteArray).data.toList (n - s.size)).toArray⟩ = z := ⟨_, rfl⟩
    have hzs : z.size = n - s.size := by rw [Lib.size_eq, ← hz]; simp [Lib.repeatL_length]
    have he : s ++ z = ⟨(padL s.data.toList n).toArray⟩ := by
      refine ba_ext ?_
      rw [HV.out, ← HS.out, ByteArray.data_append, ← hz]
      have := Lib.repeatL_replicate 0 1 (n - s.size)
      simp at this
      simp [this]
    rw [hz] at HC
    have HEQ := Lib.hid he
    have hsum : ¬ 9223372036854775807 < s.size + z.size := by omega
    clear he hz
    have hw : IntKind.i64.wrap ((n : Int) - (s.size : Int)) = (n : Int) - (s.size : Int) := IntWalk.i64_in _ (by omega)
    go_enter Tryz.func44, Tryz.ntmps44
    go_wp2_with fail
    refine (HC.out _).mono ?_
    rintro e w1 ⟨rfl, hb⟩
    have HB := Lib.hid hb
    clear hb
    go_wp2
    go_ret
    exact ⟨by rw [← HEQ.out]; rfl, HB.out⟩
set_option maxRecDepth 10000 in
set_option maxHeartbeats 1000000 in
theorem cclo11 (old : ByteArray) (n bn : Nat) (W : World) (cn : W.cell? ⟨bn, 0, none⟩ = some (.int .i64 (n : Int))) (ho : old.size ≤ 1000) (hn : n ≤ 1000) :
    Calls Tryz.prog 106 (#[.string old] ++ #[.pointer (some ⟨bn, 0, none⟩)]) W fun e w' => e = .returned (.string ⟨(padL old.data.toList n).toArray⟩) ∧ Below W.heap.size W w' := by
  have HC := Lib.hid (fun W' => sized11 old n W' ho hn)
  obtain ⟨r, hr⟩ : ∃ r : ByteArray, ⟨(padL old.data.toList n).toArray⟩ = r := ⟨_, rfl⟩
  rw [hr] at HC ⊢
  clear hr ho hn
  go_enter Tryz.func106, Tryz.ntmps106
  go_wp2_with fail
  refine (HC.out _).mono ?_
  rintro e w1 ⟨rfl, hb⟩
  have HB := Lib.hid hb
  clear hb
  go_wp2
  go_ret
  exact ⟨rfl, HB.out⟩
attribute [local go_sem ↓] old_ldi old_lds
attribute [local go_sem] oldC_forall isC1_ptr isS1_ptr c1V_ptr
set_option maxRecDepth 10000 in
set_option maxHeartbeats 2000000 in
theorem wclo11 (old s : ByteArray) (n bn bs : Nat) (W : World) (cn : W.cell? ⟨bn, 0, none⟩ = some (.int .i64 (n : Int))) (cs : W.cell? ⟨bs, 0, none⟩ = some (.string s)) (ho : old.size ≤ 1000) (hn : n + s.size ≤ 256) :
    Calls Tryz.prog 43 (#[.string old] ++ #[.pointer (some ⟨bn, 0, none⟩), .pointer (some ⟨bs, 0, none⟩)]) W fun e w' => e = .returned (.string ⟨(wrtL old.data.toList n s.data.toList).toArray⟩) ∧ Below W.heap.size W w' := by
  have HC := Lib.hid (fun W' => sized11 old n W' ho (by omega))
  have H1 : Hid (∀ w0 w', OldC w0 w' → Calls Tryz.prog 44 #[.string old, .int .i64 (n : Int)] w' fun r w'' => r = .returned (.string ⟨(padL old.data.toList n).toArray⟩) ∧ OldC w0 w'') := fun w0 w' hw' => by
    refine (HC.out w').mono ?_
    rintro r w'' ⟨rfl, hb⟩
    exact ⟨rfl, hw'.then hb⟩
  have HS := Lib.hid (Lib.size_eq s)
  have HO := Lib.hid (Lib.size_eq old)
  have hw : IntKind.i64.wrap ((n : Int) + (s.size : Int)) = (n : Int) + (s.size : Int) := IntWalk.i64_in _ (by omega)
  obtain ⟨r, hr⟩ : ∃ r : ByteArray, ⟨(padL old.data.toList n).toArray⟩ = r := ⟨_, rfl⟩
  have HR := Lib.hid (show r.data.toList = padL old.data.toList n by rw [← hr])
  rw [hr] at H1
  have hrs : r.size = n := by rw [Lib.size_eq, HR.out, len_padL]
  have hsum : ¬ 9223372036854775807 < r.size + s.size := by omega
  have HRS := Lib.hid hrs
  clear hr HC hrs
  obtain ⟨m, hm⟩ : ∃ m : Nat, min ((n : Int) + (s.size : Int)) (old.size : Int) = (m : Int) := ⟨min (n + s.size) old.size, by omega⟩
  have hml : m ≤ old.size := by omega
  have hml2 : (m : Int) ≤ (old.size : Int) := by omega
  have hsum2 : ¬ 9223372036854775807 < r.size + s.size + (old.size - m) := by have := HRS.out; omega
  have hm3 : old.data.toList.drop m = old.data.toList.drop (n + s.size) := by
    by_cases h : n + s.size ≤ old.size
    · rw [show m = n + s.size by omega]
    · rw [List.drop_of_length_le (by rw [← HO.out]; omega), List.drop_of_length_le (by rw [← HO.out]; omega)]
  have he : r ++ s ++ old.extract m old.size = ⟨(wrtL old.data.toList n s.data.toList).toArray⟩ := by
    refine ba_ext ?_
    unfold wrtL
    rw [← HS.out, ← hm3, ByteArray.data_append, ByteArray.data_append, Array.toList_append, Array.toList_append, HR.out, Lib.extract_data, List.take_of_length_le (l := old.data.toList.drop m) (by rw [List.length_drop, ← HO.out]; omega)]
  have HEQ := Lib.hid he
  clear he hm3 HR HRS
  go_enter Tryz.func43, Tryz.ntmps43
  go_wp2_with fail
  refine wp_region_old (by kernel_rfl) (by kernel_rfl) ?_
  repeat (go_big_quiet_step ((first | (intro hw; with_reducible exact H1.out _ _ hw))))
  refine wpQuiet_nil ?_
  intro w3 hw3
  have HB3 := Lib.hid (show Below W.heap.size W w3 from hw3)
  clear hw3
  go_wp2
  go_ret
  exact ⟨by rw [← HEQ.out]; rfl, HB3.out⟩
end Go.Proofs.YtjliagcalbdnhaaGreatDoor

namespace Go.Proofs.YtjliagcalbdnhaaGreatDoor
open Go.RowKit

set_option maxRecDepth 10000 in
set_option maxHeartbeats 1000000 in
theorem clone11 (t : List Ent) (b off cap : Nat) (w : World) (h : Ents w (some ⟨b, off, none⟩) cap t) (hl : t.length ≤ 1000) :
    Calls Tryz.prog 84 #[.slice (some ⟨b, off, none⟩) t.length cap] w fun e w' => ∃ v, e = .returned v ∧ OwnE w' w.heap.size v t ∧ Below w.heap.size w w' := by
  have HE := Lib.hid h
  have HL := Lib.hid (show ([] : List Ent).length + t.length ≤ 10000 by simp; omega)
  have hnil := fun w => Lib.run_eql_slice_nil (P := Tryz.prog) w 27 46 (some ⟨b, off, none⟩) t.length cap 0 0 Tryz.underlying27
  clear h hl
  go_enter Tryz.func84, Tryz.ntmps84
  go_wp2_with (at_builtin; refine Stopped.go ?_)
  unfold Stopped
  have hb0 : Below w.heap.size w (w.alloc (.cells #[] 46)) := (Below.refl _ _).alloc (Nat.le_refl _) _
  refine wl_catE (by rfl) _ _ (by rfl) w.heap.size _ [] t (by rfl) (ownsE_new w w.heap.size w.heap.size rfl (Nat.le_refl _) 46 3) hb0.size (some ⟨b, off, none⟩) cap (by rfl) (RowN.below HE.out hb0) HL.out ?_
  intro v w1 ho hg
  have HB := Lib.hid (hb0.grown hg hb0.size (fun k hk => by
    obtain rfl : w.heap.size = k := by simpa [Value.ownBlock] using hk
    exact Nat.le_refl _))
  have HO := Lib.hid (show OwnE w1 w.heap.size v t from ho)
  clear ho hg hb0
  go_wp2
  go_ret
  exact ⟨_, rfl, HO.out, HB.out⟩
theorem wth_set {t : List Ent} (h : Asc t) {p o : ByteArray} {x : Ent} (hf : fnd t p.data.toList = some x) (hk : x.2.1 = 1) : wth t (p, 1, o) = t.set (plc t p.data.toList) (x.1, x.2.1, o) := by
  obtain ⟨h1, h2, h3⟩ := plc_some h hf
  rw [wth_old h (e := (p, 1, o)) hf]
  have e1 : x.1 = p := ba_ext h3
  rw [hk, e1, List.set_eq_take_append_cons_drop, if_pos h1]
  rfl
theorem flat_set2 (t : List Ent) (K : Nat) (hK : K < t.length) (o : ByteArray) : (t.set K (t[K].1, t[K].2.1, o)).flatMap enc = (t.flatMap enc).take (K * 3 + 2) ++ [.string o] ++ (t.flatMap enc).drop (K * 3 + 2 + [Value.string o].length) := by
  have hlen : (t.flatMap enc).length = t.length * 3 := flat_len t fun _ _ => rfl
  have hg : ∀ j i, i < 3 → (t.flatMap enc)[j * 3 + i]? = (t[j]?).bind fun e => (enc e)[i]? := fun j i hi => flat_get t j i hi
  obtain ⟨xs, hxs⟩ : ∃ xs, t.flatMap enc = xs := ⟨_, rfl⟩
  rw [hxs] at hlen hg ⊢
  clear hxs
  apply List.ext_getElem?
  intro n
  obtain ⟨j, i, hi, rfl⟩ : ∃ j i, i < 3 ∧ n = j * 3 + i := ⟨n / 3, n % 3, Nat.mod_lt _ (by decide), by omega⟩
  rw [flat_get _ _ _ hi, List.getElem?_set]
  by_cases hj : K = j
  · subst hj
    rw [if_pos rfl, if_pos hK]
    by_cases h2 : i = 2
    · subst h2
      rw [List.getElem?_append_left (by simp; omega), List.getElem?_append_right (by simp; omega)]
      simp only [List.length_take, hlen]
      rw [show K * 3 + 2 - min (K * 3 + 2) (t.length * 3) = 0 by omega]
      rfl
    · rw [List.getElem?_append_left (by simp; omega), List.getElem?_append_left (by simp; omega), List.getElem?_take, if_pos (by omega), hg _ _ hi, List.getElem?_eq_getElem hK]
      have : i = 0 ∨ i = 1 := by omega
      rcases this with rfl | rfl <;> rfl
  · rw [if_neg hj]
    by_cases h1 : j * 3 + i < K * 3 + 2
    · rw [List.getElem?_append_left (by simp; omega), List.getElem?_append_left (by simp; omega), List.getElem?_take, if_pos h1, hg _ _ hi]
    · rw [List.getElem?_append_right (by simp; omega), List.getElem?_drop, ← hg _ _ hi]
      congr 1
      simp
      omega
set_option maxRecDepth 10000 in
set_option maxHeartbeats 4000000 in
/-- With a closure that answers o of the data that lie there. -/
theorem rewrC11 (t : List Ent) (a : Option Addr) (cap : Nat) (p : ByteArray) (fits : Bool) (o : ByteArray) (bn : Nat) (w : World) (h : Ents w a cap t) (ht : TreeL t) (hl : t.length ≤ 900) (hp : p.size ≤ 100000)
    (hc : ∀ W, Below w.heap.size w W → fits = true → flV t p.data.toList = 0 → Calls Tryz.prog 106 (#[.string (datV t p.data.toList)] ++ #[.pointer (some ⟨bn, 0, none⟩)]) W fun e w' => e = .returned (.string o) ∧ Below W.heap.size W w') :
    Calls Tryz.prog 42 #[.slice a t.length cap, .string p, .bool fits, .func (.func 106) #[] #[.pointer (some ⟨bn, 0, none⟩)]] w (Ans11 (if flV t p.data.toList ≠ 0 then (flV t p.data.toList, []) else if fits = false then (15, []) else (0, wth t (p, 1, o))) w) := by
  have HE := Lib.hid h
  have HC := Lib.hid (standing11 t a cap p 1 w h ht hl hp)
  rw [flV_st ht.2] at HC
  have HT := Lib.hid ht
  have HL := Lib.hid hl
  have HCB := Lib.hid hc
  obtain ⟨r, hr⟩ : ∃ r, (if flV t p.data.toList ≠ 0 then (flV t p.data.toList, []) else if fits = false then (15, []) else (0, wth t (p, 1, o)) : Int × List Ent) = r := ⟨_, rfl⟩
  have HR := Lib.hid hr
  rw [hr]
  clear h ht hl hp hc hr
  go_enter Tryz.func42, Tryz.ntmps42
  go_wp2_with fail
  refine (HC.out).mono ?_
  rintro e w1 ⟨i, er, rfl, her, hi, hb⟩
  have HB1 := Lib.hid hb
  have HE1 := Lib.hid (RowN.below HE.out hb)
  clear hb
  rcases her with ⟨h0, rfl⟩ | ⟨h0, herr⟩
  · have hi := hi h0
    obtain ⟨-, -, x, hx1, hx2, hx3, hx4, hx5⟩ := flV_ok HT.out.2 h0
    have HF0 := Lib.hid h0
    have HWS := Lib.hid (wth_set (o := o) HT.out.2.1.2.1 hx4 hx3)
    obtain ⟨K, hK⟩ : ∃ K, plc t p.data.toList = K := ⟨_, rfl⟩
    obtain ⟨hk, hxk⟩ : ∃ hk : K < t.length, t[K] = x := by
      obtain ⟨h1, h2, _⟩ := plc_some HT.out.2.1.2.1 hx4
      subst hK
      exact ⟨h1, h2⟩
    rw [hK] at hi HWS
    subst hi
    cases fits with
    | false =>
      have HV := Lib.hid (show r = (15, []) by rw [← HR.out, if_neg (not_not_intro h0), if_pos rfl])
      clear h0 hx1 hx2 hx3 hx4 hx5 hxk
      go_wp2
      go_ret2
      exact ⟨none, 0, .iface 61 (.int .i64 15), by rw [HV.out]; rfl, by rw [HV.out]; exact ents_nil _ _ _, by rw [HV.out]; exact er_no11 _ _ (by decide), HB1.out⟩
    | true =>
      have HV := Lib.hid (show r = (0, t.set K (x.1, x.2.1, o)) by rw [← HR.out, if_neg (not_not_intro h0), if_neg (by decide), HWS.out])
      obtain ⟨b, off, rfl, _, _⟩ := Ents.at HE1.out (Below.refl _ _) hk
      have HCL := Lib.hid (clone11 t b off cap w1 HE1.out (by have := HL.out; omega))
      have HX := Lib.hid hxk
      have HDV := Lib.hid hx5
      have hk' : (K : Int) < (t.length : Int) := by omega
      clear h0 hx1 hx2 hx3 hx4 hx5 hxk hK
      go_wp2_with fail
      refine (HCL.out).mono ?_
      rintro e w2 ⟨v, rfl, ho, hb⟩
      have HB2 := Lib.hid (HB1.out.trans (hb.mono HB1.out.size))
      have HSZ := Lib.hid (Nat.le_trans HB1.out.size hb.size)
      clear hb
      obtain ⟨hol, ⟨rfl, h9⟩ | ⟨g, cp, cur, rfl, hg, hbk, hcp, hm2, hsz, htk⟩⟩ := ho
      · omega
      · have HO := Lib.hid (show OwnE w2 w1.heap.size (.slice (some ⟨g, 0, none⟩) t.length cp) t from ⟨hol, .inr ⟨g, cp, cur, rfl, hg, hbk, hcp, hm2, hsz, htk⟩⟩)
        have HG := Lib.hid (show g < w2.heap.size from (Array.getElem?_eq_some_iff.1 hbk).1)
        have HWG := Lib.hid (show w.heap.size ≤ g from Nat.le_trans HB1.out.size hg)
        have hget : ∀ j, j < 3 → cur[K * 3 + j]? = (enc x)[j]? := fun j hj => by
          have h1 := flat_get t K j hj
          rw [List.getElem?_eq_getElem hk, HX.out, Option.bind_some, ← htk, List.getElem?_take_of_lt (by omega), Array.getElem?_toList] at h1
          exact h1
        have c0 : w2.cell? ⟨g, K * 3, none⟩ = some (.string x.1) := (cell_of8 hbk (hget 0 (by decide))).1
        have c1 : w2.cell? ⟨g, K * 3 + 1, none⟩ = some (.int .i64 x.2.1) := (cell_of8 hbk (hget 1 (by decide))).1
        have c2 : w2.cell? ⟨g, K * 3 + 2, none⟩ = some (.string x.2.2) := (cell_of8 hbk (hget 2 (by decide))).1
        have HKS : Hid (∀ X, Below w2.heap.size w2 X → X.cell? ⟨g, K * 3 + 2, none⟩ = some (.string x.2.2) ∧ X.frozen? ⟨g, K * 3 + 2, none⟩ = false) := fun X hX => cell_of8 ((hX.block g HG.out).trans hbk) (hget 2 (by decide))
        have HCL2 : Hid (∀ X, Below w2.heap.size w2 X → Calls Tryz.prog 106 (#[.string x.2.2] ++ #[.pointer (some ⟨bn, 0, none⟩)]) X fun e w' => e = .returned (.string o) ∧ Below w2.heap.size w2 w') := fun X hX => by
          rw [← HDV.out]
          refine (HCB.out X (HB2.out.trans (hX.mono HB2.out.size)) (by simp) HF0.out).mono ?_
          rintro e w' ⟨rfl, hb⟩
          exact ⟨rfl, hX.trans (hb.mono hX.size)⟩
        have hkc : (K : Int) < (cp : Int) := by omega
        clear hget htk hsz hm2 hcp hbk hg hol c0 c1
        go_wp2_with fail
        refine (HCL2.out _ (Below.refl _ _)).mono ?_
        rintro e w4 ⟨rfl, hB4⟩
        have HK4 := Lib.hid (HKS.out w4 hB4)
        clear c2
        have c2 := HK4.out.1
        have f2 := HK4.out.2
        have HB4 := Lib.hid ((HB2.out.trans (hB4.mono HB2.out.size)).setCell (p := ⟨g, K * 3 + 2, none⟩) HWG.out (.string o))
        have HO4 : Hid (OwnE (w4.setCell ⟨g, K * 3 + 2, none⟩ (.string o)) w1.heap.size (.slice (some ⟨g, 0, none⟩) t.length cp) (t.set K (x.1, x.2.1, o))) := by
          have h1 := OwnE.below HO.out hB4
          have h2 := owns_put h1 (K * 3 + 2) [.string o] (by simp; omega)
          have h3 := flat_set2 t K hk o
          rw [HX.out] at h3
          rw [← h3] at h2
          have h4 : (t.set K (x.1, x.2.1, o)).length = t.length := List.length_set ..
          unfold Hid OwnE
          rw [h4]
          exact h2
        clear hB4
        go_wp2
        go_ret2
        obtain ⟨a5, cap5, e5, h5⟩ := ents_of_own HO4.out
        exact ⟨a5, cap5, .nilIface, by rw [HV.out]; exact congrArg (fun z => Ending.returned (.tuple #[z, .nilIface])) e5, by rw [HV.out]; exact h5, by rw [HV.out]; exact er_nil _, HB4.out⟩
  · have HV := Lib.hid (show r = (flV t p.data.toList, []) by rw [← HR.out, if_pos h0])
    obtain ⟨u, y, rfl⟩ := herr.iface
    have HER := Lib.hid herr
    have H0 := Lib.hid h0
    clear herr h0 hi
    go_wp2
    go_ret2
    exact ⟨none, 0, _, by rw [HV.out]; rfl, by rw [HV.out]; exact ents_nil _ _ _, by rw [HV.out]; exact .inr ⟨H0.out, HER.out⟩, HB1.out⟩
set_option maxRecDepth 10000 in
set_option maxHeartbeats 4000000 in
/-- With a closure that answers o of the data that lie there. -/
theorem rewrW11 (t : List Ent) (a : Option Addr) (cap : Nat) (p : ByteArray) (fits : Bool) (o : ByteArray) (bn bs : Nat) (w : World) (h : Ents w a cap t) (ht : TreeL t) (hl : t.length ≤ 900) (hp : p.size ≤ 100000)
    (hc : ∀ W, Below w.heap.size w W → fits = true → flV t p.data.toList = 0 → Calls Tryz.prog 43 (#[.string (datV t p.data.toList)] ++ #[.pointer (some ⟨bn, 0, none⟩), .pointer (some ⟨bs, 0, none⟩)]) W fun e w' => e = .returned (.string o) ∧ Below W.heap.size W w') :
    Calls Tryz.prog 42 #[.slice a t.length cap, .string p, .bool fits, .func (.func 43) #[] #[.pointer (some ⟨bn, 0, none⟩), .pointer (some ⟨bs, 0, none⟩)]] w (Ans11 (if flV t p.data.toList ≠ 0 then (flV t p.data.toList, []) else if fits = false then (15, []) else (0, wth t (p, 1, o))) w) := by
  have HE := Lib.hid h
  have HC := Lib.hid (standing11 t a cap p 1 w h ht hl hp)
  rw [flV_st ht.2] at HC
  have HT := Lib.hid ht
  have HL := Lib.hid hl
  have HCB := Lib.hid hc
  obtain ⟨r, hr⟩ : ∃ r, (if flV t p.data.toList ≠ 0 then (flV t p.data.toList, []) else if fits = false then (15, []) else (0, wth t (p, 1, o)) : Int × List Ent) = r := ⟨_, rfl⟩
  have HR := Lib.hid hr
  rw [hr]
  clear h ht hl hp hc hr
  go_enter Tryz.func42, Tryz.ntmps42
  go_wp2_with fail
  refine (HC.out).mono ?_
  rintro e w1 ⟨i, er, rfl, her, hi, hb⟩
  have HB1 := Lib.hid hb
  have HE1 := Lib.hid (RowN.below HE.out hb)
  clear hb
  rcases her with ⟨h0, rfl⟩ | ⟨h0, herr⟩
  · have hi := hi h0
    obtain ⟨-, -, x, hx1, hx2, hx3, hx4, hx5⟩ := flV_ok HT.out.2 h0
    have HF0 := Lib.hid h0
    have HWS := Lib.hid (wth_set (o := o) HT.out.2.1.2.1 hx4 hx3)
    obtain ⟨K, hK⟩ : ∃ K, plc t p.data.toList = K := ⟨_, rfl⟩
    obtain ⟨hk, hxk⟩ : ∃ hk : K < t.length, t[K] = x := by
      obtain ⟨h1, h2, _⟩ := plc_some HT.out.2.1.2.1 hx4
      subst hK
      exact ⟨h1, h2⟩
    rw [hK] at hi HWS
    subst hi
    cases fits with
    | false =>
      have HV := Lib.hid (show r = (15, []) by rw [← HR.out, if_neg (not_not_intro h0), if_pos rfl])
      clear h0 hx1 hx2 hx3 hx4 hx5 hxk
      go_wp2
      go_ret2
      exact ⟨none, 0, .iface 61 (.int .i64 15), by rw [HV.out]; rfl, by rw [HV.out]; exact ents_nil _ _ _, by rw [HV.out]; exact er_no11 _ _ (by decide), HB1.out⟩
    | true =>
      have HV := Lib.hid (show r = (0, t.set K (x.1, x.2.1, o)) by rw [← HR.out, if_neg (not_not_intro h0), if_neg (by decide), HWS.out])
      obtain ⟨b, off, rfl, _, _⟩ := Ents.at HE1.out (Below.refl _ _) hk
      have HCL := Lib.hid (clone11 t b off cap w1 HE1.out (by have := HL.out; omega))
      have HX := Lib.hid hxk
      have HDV := Lib.hid hx5
      have hk' : (K : Int) < (t.length : Int) := by omega
      clear h0 hx1 hx2 hx3 hx4 hx5 hxk hK
      go_wp2_with fail
      refine (HCL.out).mono ?_
      rintro e w2 ⟨v, rfl, ho, hb⟩
      have HB2 := Lib.hid (HB1.out.trans (hb.mono HB1.out.size))
      have HSZ := Lib.hid (Nat.le_trans HB1.out.size hb.size)
      clear hb
      obtain ⟨hol, ⟨rfl, h9⟩ | ⟨g, cp, cur, rfl, hg, hbk, hcp, hm2, hsz, htk⟩⟩ := ho
      · omega
      · have HO := Lib.hid (show OwnE w2 w1.heap.size (.slice (some ⟨g, 0, none⟩) t.length cp) t from ⟨hol, .inr ⟨g, cp, cur, rfl, hg, hbk, hcp, hm2, hsz, htk⟩⟩)
        have HG := Lib.hid (show g < w2.heap.size from (Array.getElem?_eq_some_iff.1 hbk).1)
        have HWG := Lib.hid (show w.heap.size ≤ g from Nat.le_trans HB1.out.size hg)
        have hget : ∀ j, j < 3 → cur[K * 3 + j]? = (enc x)[j]? := fun j hj => by
          have h1 := flat_get t K j hj
          rw [List.getElem?_eq_getElem hk, HX.out, Option.bind_some, ← htk, List.getElem?_take_of_lt (by omega), Array.getElem?_toList] at h1
          exact h1
        have c0 : w2.cell? ⟨g, K * 3, none⟩ = some (.string x.1) := (cell_of8 hbk (hget 0 (by decide))).1
        have c1 : w2.cell? ⟨g, K * 3 + 1, none⟩ = some (.int .i64 x.2.1) := (cell_of8 hbk (hget 1 (by decide))).1
        have c2 : w2.cell? ⟨g, K * 3 + 2, none⟩ = some (.string x.2.2) := (cell_of8 hbk (hget 2 (by decide))).1
        have HKS : Hid (∀ X, Below w2.heap.size w2 X → X.cell? ⟨g, K * 3 + 2, none⟩ = some (.string x.2.2) ∧ X.frozen? ⟨g, K * 3 + 2, none⟩ = false) := fun X hX => cell_of8 ((hX.block g HG.out).trans hbk) (hget 2 (by decide))
        have HCL2 : Hid (∀ X, Below w2.heap.size w2 X → Calls Tryz.prog 43 (#[.string x.2.2] ++ #[.pointer (some ⟨bn, 0, none⟩), .pointer (some ⟨bs, 0, none⟩)]) X fun e w' => e = .returned (.string o) ∧ Below w2.heap.size w2 w') := fun X hX => by
          rw [← HDV.out]
          refine (HCB.out X (HB2.out.trans (hX.mono HB2.out.size)) (by simp) HF0.out).mono ?_
          rintro e w' ⟨rfl, hb⟩
          exact ⟨rfl, hX.trans (hb.mono hX.size)⟩
        have hkc : (K : Int) < (cp : Int) := by omega
        clear hget htk hsz hm2 hcp hbk hg hol c0 c1
        go_wp2_with fail
        refine (HCL2.out _ (Below.refl _ _)).mono ?_
        rintro e w4 ⟨rfl, hB4⟩
        have HK4 := Lib.hid (HKS.out w4 hB4)
        clear c2
        have c2 := HK4.out.1
        have f2 := HK4.out.2
        have HB4 := Lib.hid ((HB2.out.trans (hB4.mono HB2.out.size)).setCell (p := ⟨g, K * 3 + 2, none⟩) HWG.out (.string o))
        have HO4 : Hid (OwnE (w4.setCell ⟨g, K * 3 + 2, none⟩ (.string o)) w1.heap.size (.slice (some ⟨g, 0, none⟩) t.length cp) (t.set K (x.1, x.2.1, o))) := by
          have h1 := OwnE.below HO.out hB4
          have h2 := owns_put h1 (K * 3 + 2) [.string o] (by simp; omega)
          have h3 := flat_set2 t K hk o
          rw [HX.out] at h3
          rw [← h3] at h2
          have h4 : (t.set K (x.1, x.2.1, o)).length = t.length := List.length_set ..
          unfold Hid OwnE
          rw [h4]
          exact h2
        clear hB4
        go_wp2
        go_ret2
        obtain ⟨a5, cap5, e5, h5⟩ := ents_of_own HO4.out
        exact ⟨a5, cap5, .nilIface, by rw [HV.out]; exact congrArg (fun z => Ending.returned (.tuple #[z, .nilIface])) e5, by rw [HV.out]; exact h5, by rw [HV.out]; exact er_nil _, HB4.out⟩
  · have HV := Lib.hid (show r = (flV t p.data.toList, []) by rw [← HR.out, if_pos h0])
    obtain ⟨u, y, rfl⟩ := herr.iface
    have HER := Lib.hid herr
    have H0 := Lib.hid h0
    clear herr h0 hi
    go_wp2
    go_ret2
    exact ⟨none, 0, _, by rw [HV.out]; rfl, by rw [HV.out]; exact ents_nil _ _ _, by rw [HV.out]; exact .inr ⟨H0.out, HER.out⟩, HB1.out⟩
theorem datsz11 {t : List Ent} (ht : TreeL t) (p : List UInt8) : (datV t p).size ≤ 256 := by
  unfold datV
  cases hf : fnd t p with
  | none => show 0 ≤ 256; omega
  | some e =>
    obtain ⟨h8, _⟩ := (fnd_some ht.2.1.2.1).1 hf
    exact (rightE_parts (ht.2.1.1 e h8)).2.2.2.1
theorem wrV_rw {t : List Ent} {p s : ByteArray} {n : Int} (fits : Bool) (h : fits = !decide (n < 0 ∨ 256 < n + s.size)) : (if flV t p.data.toList ≠ 0 then (flV t p.data.toList, []) else if fits = false then (15, []) else (0, wth t (p, 1, ⟨(wrtL (datV t p.data.toList).data.toList n.toNat s.data.toList).toArray⟩)) : Int × List Ent) = wrV t p n s := by
  unfold wrV
  subst h
  by_cases h : n < 0 ∨ 256 < n + s.size
  · simp [h]
  · simp [h]
theorem ctV_rw {t : List Ent} {p : ByteArray} {n : Int} (fits : Bool) (h : fits = !decide (n < 0 ∨ 256 < n)) : (if flV t p.data.toList ≠ 0 then (flV t p.data.toList, []) else if fits = false then (15, []) else (0, wth t (p, 1, ⟨(padL (datV t p.data.toList).data.toList n.toNat).toArray⟩)) : Int × List Ent) = ctV t p n := by
  unfold ctV
  subst h
  by_cases h : n < 0 ∨ 256 < n
  · simp [h]
  · simp [h]
set_option maxRecDepth 10000 in
set_option maxHeartbeats 4000000 in
theorem write11 (t : List Ent) (a : Option Addr) (cap : Nat) (p : ByteArray) (n : Int) (s : ByteArray) (w : World) (h : Ents w a cap t) (ht : TreeL t) (hl : t.length ≤ 900) (hp : p.size ≤ 100000) (hn : -9223372036854775808 ≤ n ∧ n ≤ 9223372036854775807) (hs : s.size ≤ 100000) :
    Calls Tryz.prog 22 #[.slice a t.length cap, .string p, .int .i64 n, .string s] w (Ans11 (wrV t p n s) w) := by
  obtain ⟨W1, hW1⟩ : ∃ W, w.alloc (.cells #[.int .i64 n] 3) = W := ⟨_, rfl⟩
  obtain ⟨bn, hbn⟩ : ∃ N, w.heap.size = N := ⟨_, rfl⟩
  obtain ⟨V, hV⟩ : ∃ W, W1.alloc (.cells #[.string s] 9) = W := ⟨_, rfl⟩
  obtain ⟨bs, hbs⟩ : ∃ N, W1.heap.size = N := ⟨_, rfl⟩
  have hb0 : Below w.heap.size w W1 := by rw [← hW1]; exact (Below.refl _ _).alloc (Nat.le_refl _) _
  have hb1 : Below W1.heap.size W1 V := by rw [← hV]; exact (Below.refl _ _).alloc (Nat.le_refl _) _
  have hlt : bn < W1.heap.size := by rw [← hW1, ← hbn]; simp
  have cn : V.cell? ⟨bn, 0, none⟩ = some (.int .i64 n) := (hb1.cell (p := ⟨bn, 0, none⟩) hlt).trans (by rw [← hW1, ← hbn]; simp)
  have cs : V.cell? ⟨bs, 0, none⟩ = some (.string s) := by rw [← hV, ← hbs]; simp
  have HB0 := Lib.hid (hb0.trans (hb1.mono hb0.size))
  have hl1 : bn < V.heap.size := Nat.lt_of_lt_of_le hlt hb1.size
  have hl2 : bs < V.heap.size := by rw [← hV, ← hbs]; simp
  have HA := Lib.hid (fun o n v W h => at_er o p n v W h)
  have hmf : ∀ (fn : Fn) (first cap : Array Value) (w : World), (Instr.makeFunc fn first cap).run Tryz.prog w = .ok (.func fn first cap) w := fun _ _ _ _ => rfl
  have hw : IntKind.i64.wrap (256 - (s.size : Int)) = 256 - (s.size : Int) := IntWalk.i64_in _ (by omega)
  have key : ∀ fits : Bool, fits = !decide (n < 0 ∨ 256 < n + s.size) → Calls Tryz.prog 42 #[.slice a t.length cap, .string p, .bool fits, .func (.func 43) #[] #[.pointer (some ⟨bn, 0, none⟩), .pointer (some ⟨bs, 0, none⟩)]] V (Ans11 (wrV t p n s) V) := fun fits hf => by
    rw [← wrV_rw fits hf]
    refine rewrW11 t a cap p fits _ bn bs V (RowN.below h HB0.out) ht hl hp fun W hW hft h0 => ?_
    rw [hft] at hf
    have h1 : ¬ (n < 0 ∨ 256 < n + s.size) := fun hc => by rw [decide_eq_true hc] at hf; cases hf
    have h2 : ¬ n < 0 := fun hc => h1 (.inl hc)
    have h3 : ¬ 256 < n + s.size := fun hc => h1 (.inr hc)
    have hds := datsz11 ht p.data.toList
    exact wclo11 _ s n.toNat bn bs W ((hW.cell (p := ⟨bn, 0, none⟩) hl1).trans (by rw [show ((n.toNat : Nat) : Int) = n by omega]; exact cn)) ((hW.cell (p := ⟨bs, 0, none⟩) hl2).trans cs) (by omega) (by omega)
  obtain ⟨r, hr⟩ : ∃ r, wrV t p n s = r := ⟨_, rfl⟩
  rw [hr] at key ⊢
  have KEY := Lib.hid key
  clear h ht hl hp hb0 hb1 hlt hl1 hl2 key hr
  by_cases h1 : 0 ≤ n
  · by_cases h2 : n ≤ 256 - (s.size : Int)
    · have HC := Lib.hid (KEY.out true (by rw [decide_eq_false (by omega)]; rfl))
      go_enter Tryz.func22, Tryz.ntmps22
      go_wp2_with fail
      refine (HC.out).mono ?_
      rintro e w1 ⟨a', cap', er, rfl, h1, her, hb⟩
      have HB1 := Lib.hid (HB0.out.trans (hb.mono HB0.out.size))
      have H1 := Lib.hid h1
      have HER := Lib.hid her
      clear hb h1 her
      go_wp2_with fail
      refine (HA.out _ _ _ _ HER.out).mono ?_
      rintro e w2 ⟨er2, rfl, her, hb⟩
      have HB2 := Lib.hid (HB1.out.trans (hb.mono HB1.out.size))
      have H2 := Lib.hid (RowN.below H1.out hb)
      have HER2 := Lib.hid her
      clear hb her
      go_wp2
      go_ret2
      exact ⟨a', cap', er2, rfl, H2.out, HER2.out, HB2.out⟩
    · have HC := Lib.hid (KEY.out false (by rw [decide_eq_true (by omega)]; rfl))
      go_enter Tryz.func22, Tryz.ntmps22
      go_wp2_with fail
      refine (HC.out).mono ?_
      rintro e w1 ⟨a', cap', er, rfl, h1, her, hb⟩
      have HB1 := Lib.hid (HB0.out.trans (hb.mono HB0.out.size))
      have H1 := Lib.hid h1
      have HER := Lib.hid her
      clear hb h1 her
      go_wp2_with fail
      refine (HA.out _ _ _ _ HER.out).mono ?_
      rintro e w2 ⟨er2, rfl, her, hb⟩
      have HB2 := Lib.hid (HB1.out.trans (hb.mono HB1.out.size))
      have H2 := Lib.hid (RowN.below H1.out hb)
      have HER2 := Lib.hid her
      clear hb her
      go_wp2
      go_ret2
      exact ⟨a', cap', er2, rfl, H2.out, HER2.out, HB2.out⟩
  · have HC := Lib.hid (KEY.out false (by rw [decide_eq_true (by omega)]; rfl))
    go_enter Tryz.func22, Tryz.ntmps22
    go_wp2_with fail
    refine (HC.out).mono ?_
    rintro e w1 ⟨a', cap', er, rfl, h1, her, hb⟩
    have HB1 := Lib.hid (HB0.out.trans (hb.mono HB0.out.size))
    have H1 := Lib.hid h1
    have HER := Lib.hid her
    clear hb h1 her
    go_wp2_with fail
    refine (HA.out _ _ _ _ HER.out).mono ?_
    rintro e w2 ⟨er2, rfl, her, hb⟩
    have HB2 := Lib.hid (HB1.out.trans (hb.mono HB1.out.size))
    have H2 := Lib.hid (RowN.below H1.out hb)
    have HER2 := Lib.hid her
    clear hb her
    go_wp2
    go_ret2
    exact ⟨a', cap', er2, rfl, H2.out, HER2.out, HB2.out⟩
set_option maxRecDepth 10000 in
set_option maxHeartbeats 4000000 in
theorem cut11 (t : List Ent) (a : Option Addr) (cap : Nat) (p : ByteArray) (n : Int) (w : World) (h : Ents w a cap t) (ht : TreeL t) (hl : t.length ≤ 900) (hp : p.size ≤ 100000) (hn : -9223372036854775808 ≤ n ∧ n ≤ 9223372036854775807) :
    Calls Tryz.prog 69 #[.slice a t.length cap, .string p, .int .i64 n] w (Ans11 (ctV t p n) w) := by
  obtain ⟨V, hV⟩ : ∃ W, w.alloc (.cells #[.int .i64 n] 3) = W := ⟨_, rfl⟩
  obtain ⟨bn, hbn⟩ : ∃ N, w.heap.size = N := ⟨_, rfl⟩
  have hb0 : Below w.heap.size w V := by rw [← hV]; exact (Below.refl _ _).alloc (Nat.le_refl _) _
  have cn : V.cell? ⟨bn, 0, none⟩ = some (.int .i64 n) := by rw [← hV, ← hbn]; simp
  have HB0 := Lib.hid hb0
  have hl1 : bn < V.heap.size := by rw [← hV, ← hbn]; simp
  have HA := Lib.hid (fun o n v W h => at_er o p n v W h)
  have hmf : ∀ (fn : Fn) (first cap : Array Value) (w : World), (Instr.makeFunc fn first cap).run Tryz.prog w = .ok (.func fn first cap) w := fun _ _ _ _ => rfl
  have key : ∀ fits : Bool, fits = !decide (n < 0 ∨ 256 < n) → Calls Tryz.prog 42 #[.slice a t.length cap, .string p, .bool fits, .func (.func 106) #[] #[.pointer (some ⟨bn, 0, none⟩)]] V (Ans11 (ctV t p n) V) := fun fits hf => by
    rw [← ctV_rw fits hf]
    refine rewrC11 t a cap p fits _ bn V (RowN.below h HB0.out) ht hl hp fun W hW hft h0 => ?_
    rw [hft] at hf
    have h1 : ¬ (n < 0 ∨ 256 < n) := fun hc => by rw [decide_eq_true hc] at hf; cases hf
    have hds := datsz11 ht p.data.toList
    exact cclo11 _ n.toNat bn W ((hW.cell (p := ⟨bn, 0, none⟩) hl1).trans (by rw [show ((n.toNat : Nat) : Int) = n by omega]; exact cn)) (by omega) (by omega)
  obtain ⟨r, hr⟩ : ∃ r, ctV t p n = r := ⟨_, rfl⟩
  rw [hr] at key ⊢
  have KEY := Lib.hid key
  clear h ht hl hp hb0 hl1 key hr
  by_cases h1 : 0 ≤ n
  · by_cases h2 : n ≤ 256
    · have HC := Lib.hid (KEY.out true (by rw [decide_eq_false (by omega)]; rfl))
      go_enter Tryz.func69, Tryz.ntmps69
      go_wp2_with fail
      refine (HC.out).mono ?_
      rintro e w1 ⟨a', cap', er, rfl, h1, her, hb⟩
      have HB1 := Lib.hid (HB0.out.trans (hb.mono HB0.out.size))
      have H1 := Lib.hid h1
      have HER := Lib.hid her
      clear hb h1 her
      go_wp2_with fail
      refine (HA.out _ _ _ _ HER.out).mono ?_
      rintro e w2 ⟨er2, rfl, her, hb⟩
      have HB2 := Lib.hid (HB1.out.trans (hb.mono HB1.out.size))
      have H2 := Lib.hid (RowN.below H1.out hb)
      have HER2 := Lib.hid her
      clear hb her
      go_wp2
      go_ret2
      exact ⟨a', cap', er2, rfl, H2.out, HER2.out, HB2.out⟩
    · have HC := Lib.hid (KEY.out false (by rw [decide_eq_true (by omega)]; rfl))
      go_enter Tryz.func69, Tryz.ntmps69
      go_wp2_with fail
      refine (HC.out).mono ?_
      rintro e w1 ⟨a', cap', er, rfl, h1, her, hb⟩
      have HB1 := Lib.hid (HB0.out.trans (hb.mono HB0.out.size))
      have H1 := Lib.hid h1
      have HER := Lib.hid her
      clear hb h1 her
      go_wp2_with fail
      refine (HA.out _ _ _ _ HER.out).mono ?_
      rintro e w2 ⟨er2, rfl, her, hb⟩
      have HB2 := Lib.hid (HB1.out.trans (hb.mono HB1.out.size))
      have H2 := Lib.hid (RowN.below H1.out hb)
      have HER2 := Lib.hid her
      clear hb her
      go_wp2
      go_ret2
      exact ⟨a', cap', er2, rfl, H2.out, HER2.out, HB2.out⟩
  · have HC := Lib.hid (KEY.out false (by rw [decide_eq_true (by omega)]; rfl))
    go_enter Tryz.func69, Tryz.ntmps69
    go_wp2_with fail
    refine (HC.out).mono ?_
    rintro e w1 ⟨a', cap', er, rfl, h1, her, hb⟩
    have HB1 := Lib.hid (HB0.out.trans (hb.mono HB0.out.size))
    have H1 := Lib.hid h1
    have HER := Lib.hid her
    clear hb h1 her
    go_wp2_with fail
    refine (HA.out _ _ _ _ HER.out).mono ?_
    rintro e w2 ⟨er2, rfl, her, hb⟩
    have HB2 := Lib.hid (HB1.out.trans (hb.mono HB1.out.size))
    have H2 := Lib.hid (RowN.below H1.out hb)
    have HER2 := Lib.hid her
    clear hb her
    go_wp2
    go_ret2
    exact ⟨a', cap', er2, rfl, H2.out, HER2.out, HB2.out⟩
set_option maxRecDepth 10000 in
set_option maxHeartbeats 2000000 in
theorem unlink11 (t : List Ent) (a : Option Addr) (cap : Nat) (p : ByteArray) (w : World) (h : Ents w a cap t) (ht : TreeL t) (hl : t.length ≤ 900) (hp : p.size ≤ 100000) :
    Calls Tryz.prog 71 #[.slice a t.length cap, .string p] w (Ans11 (ulV t p.data.toList) w) := by
  have HE := Lib.hid h
  have HC := Lib.hid (standing11 t a cap p 1 w h ht hl hp)
  rw [flV_st ht.2] at HC
  have HT := Lib.hid ht
  have HL := Lib.hid hl
  have HA := Lib.hid (fun o n v W h => at_er o p n v W h)
  obtain ⟨r, hr⟩ : ∃ r, ulV t p.data.toList = r := ⟨_, rfl⟩
  have HR : Hid (r = if flV t p.data.toList ≠ 0 then (flV t p.data.toList, []) else (0, wout t p.data.toList)) := hr.symm
  rw [hr]
  clear h ht hl hp hr
  go_enter Tryz.func71, Tryz.ntmps71
  go_wp2_with fail
  refine (HC.out).mono ?_
  rintro e w1 ⟨i, er, rfl, her, hi, hb⟩
  have HB1 := Lib.hid hb
  have HE1 := Lib.hid (RowN.below HE.out hb)
  clear hb
  rcases her with ⟨h0, rfl⟩ | ⟨h0, herr⟩
  · have HV := Lib.hid (show r = (0, wout t p.data.toList) by rw [HR.out, if_neg (not_not_intro h0)])
    obtain ⟨-, -, x, hx1, hx2, hx3, hx4, hx5⟩ := flV_ok HT.out.2 h0
    have HW := Lib.hid (without11 t a cap p.data.toList x w1 HE1.out HT.out.2.1.2.1 (by have := HL.out; omega) hx4)
    have hi := hi h0
    subst hi
    clear h0 hx1 hx2 hx3 hx4 hx5
    go_wp2_with fail
    refine (HW.out).mono ?_
    rintro e w2 ⟨a', cap', rfl, h2, hb⟩
    have HB2 := Lib.hid (HB1.out.trans (hb.mono HB1.out.size))
    have H2 := Lib.hid h2
    clear hb h2
    go_wp2
    go_ret2
    exact ⟨a', cap', .nilIface, by rw [HV.out]; rfl, by rw [HV.out]; exact H2.out, by rw [HV.out]; exact er_nil _, HB2.out⟩
  · have HV := Lib.hid (show r = (flV t p.data.toList, []) by rw [HR.out, if_pos h0])
    obtain ⟨u, y, rfl⟩ := herr.iface
    have HER := Lib.hid (show Er w1 (flV t p.data.toList) (.iface u y) from .inr ⟨h0, herr⟩)
    clear herr h0 hi
    go_wp2_with fail
    refine (HA.out _ _ _ _ HER.out).mono ?_
    rintro e w2 ⟨er2, rfl, her, hb⟩
    have HB2 := Lib.hid (HB1.out.trans (hb.mono HB1.out.size))
    have HER2 := Lib.hid her
    clear hb her
    go_wp2
    go_ret2
    exact ⟨none, 0, er2, by rw [HV.out]; rfl, by rw [HV.out]; exact ents_nil _ _ _, by rw [HV.out]; exact HER2.out, HB2.out⟩
end Go.Proofs.YtjliagcalbdnhaaGreatDoor

namespace Go.Proofs.YtjliagcalbdnhaaGreatDoor
open Go.RowKit

set_option maxRecDepth 10000 in
set_option maxHeartbeats 1000000 in
theorem uclo11 (x : Ent) (p : ByteArray) (bp : Nat) (W : World) (cp : W.cell? ⟨bp, 0, none⟩ = some (.string p)) (hx : x.1.size ≤ 100000) (hp : p.size ≤ 100000) :
    Calls Tryz.prog 149 (#[enV x] ++ #[.pointer (some ⟨bp, 0, none⟩)]) W fun e w' => e = .returned (.bool (und (pl x) p.data.toList)) ∧ Below W.heap.size W w' := by
  have HC := Lib.hid (fun W' => under_any x.1 p (by omega) (by omega) W')
  have hb0 : Below W.heap.size W (W.alloc (.cells #[.string x.1, .int .i64 x.2.1, .string x.2.2] 46)) := (Below.refl _ _).alloc (Nat.le_refl _) _
  have HB0 := Lib.hid hb0
  obtain ⟨r, hr⟩ : ∃ r, und (pl x) p.data.toList = r := ⟨_, rfl⟩
  rw [show und x.1.data.toList p.data.toList = r from hr] at HC
  rw [hr]
  have cp1 : (W.alloc (.cells #[.string x.1, .int .i64 x.2.1, .string x.2.2] 46)).cell? ⟨bp, 0, none⟩ = some (.string p) := by
    by_cases hlt : bp < W.heap.size
    · exact (hb0.cell (p := ⟨bp, 0, none⟩) hlt).trans cp
    · exfalso
      have : W.heap[bp]? = none := Array.getElem?_eq_none (by omega)
      simp [World.cell?, this] at cp
  clear hb0 hr hx hp
  go_enter Tryz.func149, Tryz.ntmps149
  go_wp2_with fail
  refine (HC.out _).mono ?_
  rintro e w1 ⟨rfl, hb⟩
  have HB := Lib.hid (HB0.out.trans (hb.mono HB0.out.size))
  clear hb
  go_wp2
  go_ret
  exact ⟨rfl, HB.out⟩
set_option maxRecDepth 10000 in
set_option maxHeartbeats 1000000 in
theorem index11 (t : List Ent) (a : Option Addr) (cap : Nat) (p : ByteArray) (bp : Nat) (w : World) (h : Ents w a cap t) (hs : Sm t) (hl : bp < w.heap.size) (cp : w.cell? ⟨bp, 0, none⟩ = some (.string p)) (hp : p.size ≤ 100000) :
    Calls Tryz.prog 148 #[.slice a t.length cap, .func (.func 149) #[] #[.pointer (some ⟨bp, 0, none⟩)]] w fun e w' => ∃ i : Int, e = .returned (.int .i64 i) ∧ decide (0 ≤ i) = (t.any fun x => und (pl x) p.data.toList) ∧ Below w.heap.size w w' := by
  have HE := Lib.hid h
  have hlen := hs.1
  have HC : Hid (∀ x ∈ t, ∀ W, Below w.heap.size w W → _) := fun x hx W hW => uclo11 x p bp W ((hW.cell (p := ⟨bp, 0, none⟩) hl).trans cp) (hs.2 x hx).1 hp
  obtain ⟨r, hr⟩ : ∃ r, (t.any fun x => und (pl x) p.data.toList) = r := ⟨_, rfl⟩
  have HR := Lib.hid hr
  rw [hr]
  clear h hs hl cp hp hr
  go_enter Tryz.func148, Tryz.ntmps148
  go_wp2
  go_loopg [8] t.length (fun g i wx => ∃ k : Nat, i = .int .i64 (k : Int) ∧ k + g = t.length ∧ Hid (Below w.heap.size w wx) ∧ Hid ((t.take k).any (fun x => und (pl x) p.data.toList) = false))
  case atStart => exact ⟨0, rfl, by omega, Below.refl _ _, by simp [Hid]⟩
  case round =>
    obtain ⟨k, rfl, hk, HB, HN⟩ := hrel
    have hw : IntKind.i64.wrap ((k : Int) + 1) = (k : Int) + 1 := IntWalk.i64_in _ (by omega)
    by_cases hlt : k < t.length
    · have hlt' : (k : Int) < (t.length : Int) := by omega
      obtain ⟨b, off, rfl, _, hc⟩ := Ents.at HE.out HB.out hlt
      have HCX := Lib.hid (HC.out t[k] (List.getElem_mem hlt) wr HB.out)
      have HT := Lib.hid (take_get t k hlt)
      have HM := Lib.hid (List.getElem_mem hlt)
      obtain ⟨x, hx⟩ : ∃ x, t[k] = x := ⟨_, rfl⟩
      rw [hx] at hc HCX HT HM
      have c0 := hc.c0
      have c1 := hc.c1
      have c2 := hc.c2
      clear hc hx
      cases hu : und (pl x) p.data.toList with
      | true =>
        rw [hu] at HCX
        have HV := Lib.hid (show r = true by rw [← HR.out, List.any_eq_true]; exact ⟨x, HM.out, hu⟩)
        clear hu
        go_wp2_with fail
        refine (HCX.out).mono ?_
        rintro e w1 ⟨rfl, hb⟩
        have HB1 := Lib.hid (HB.out.trans (hb.mono HB.out.size))
        clear hb
        go_wp2
        go_ret
        exact ⟨_, rfl, by rw [HV.out]; exact decide_eq_true (by omega), HB1.out⟩
      | false =>
        rw [hu] at HCX
        have HN1 := Lib.hid (show (t.take (k + 1)).any (fun x => und (pl x) p.data.toList) = false by rw [HT.out, List.any_append, HN.out]; simp [hu])
        clear hu
        go_wp2_with fail
        refine (HCX.out).mono ?_
        rintro e w1 ⟨rfl, hb⟩
        have HB1 := Lib.hid (HB.out.trans (hb.mono HB.out.size))
        clear hb
        go_wp2
        go_roundg (gk - 1)
        case measure => omega
        case rel => exact ⟨k + 1, by simp, by omega, HB1.out, HN1.out⟩
    · have hlt' : ¬ (k : Int) < (t.length : Int) := by omega
      have HV := Lib.hid (show r = false by
        rw [← HR.out]
        have := HN.out
        rwa [List.take_of_length_le (by omega)] at this)
      go_wp2
      go_ret
      exact ⟨_, rfl, by rw [HV.out]; exact decide_eq_false (by omega), HB.out⟩
set_option maxRecDepth 10000 in
set_option maxHeartbeats 1000000 in
theorem contains11 (t : List Ent) (a : Option Addr) (cap : Nat) (p : ByteArray) (bp : Nat) (w : World) (h : Ents w a cap t) (hs : Sm t) (hl : bp < w.heap.size) (cp : w.cell? ⟨bp, 0, none⟩ = some (.string p)) (hp : p.size ≤ 100000) :
    Calls Tryz.prog 108 #[.slice a t.length cap, .func (.func 149) #[] #[.pointer (some ⟨bp, 0, none⟩)]] w fun e w' => e = .returned (.bool (t.any fun x => und (pl x) p.data.toList)) ∧ Below w.heap.size w w' := by
  have HC := Lib.hid (index11 t a cap p bp w h hs hl cp hp)
  obtain ⟨r, hr⟩ : ∃ r, (t.any fun x => und (pl x) p.data.toList) = r := ⟨_, rfl⟩
  rw [hr] at HC ⊢
  clear h hs hl cp hp hr
  go_enter Tryz.func108, Tryz.ntmps108
  go_wp2_with fail
  refine (HC.out).mono ?_
  rintro e w1 ⟨i, rfl, hi, hb⟩
  have HB := Lib.hid hb
  have HI := Lib.hid hi
  clear hb hi
  go_wp2
  go_ret
  exact ⟨by rw [← HI.out]; rfl, HB.out⟩
theorem mkunder11 (p : ByteArray) (w : World) : Calls Tryz.prog 109 #[.string p] w fun e w' => e = .returned (.func (.func 149) #[] #[.pointer (some ⟨w.heap.size, 0, none⟩)]) ∧ w.alloc (.cells #[.string p] 9) = w' := by
  have hmf : ∀ (fn : Fn) (first cap : Array Value) (w : World), (Instr.makeFunc fn first cap).run Tryz.prog w = .ok (.func fn first cap) w := fun _ _ _ _ => rfl
  go_enter Tryz.func109, Tryz.ntmps109
  go_wp2
  go_ret
  exact ⟨rfl, rfl⟩
theorem rmV_st (t : List Ent) (p : List UInt8) : rmV t p = if stK11 t p 2 ≠ 0 then (stK11 t p 2, []) else if (t.any fun x => und (pl x) p) = true then (7, []) else (0, wout t p) := by
  unfold rmV stK11 hsV
  by_cases h1 : isP p
  · rw [if_neg (not_not_intro h1), if_neg (not_not_intro h1)]
    by_cases h2 : p = [47]
    · rw [if_pos h2, if_pos h2]; rfl
    · rw [if_neg h2, if_neg h2]
      cases hf : fnd t p with
      | none => rfl
      | some e =>
        unfold othV
        by_cases h : e.2.1 = 2 <;> simp [h]
  · rw [if_pos h1, if_pos h1]; rfl
set_option maxRecDepth 10000 in
set_option maxHeartbeats 4000000 in
theorem rmdir11 (t : List Ent) (a : Option Addr) (cap : Nat) (p : ByteArray) (w : World) (h : Ents w a cap t) (ht : TreeL t) (hl : t.length ≤ 900) (hp : p.size ≤ 100000) :
    Calls Tryz.prog 73 #[.slice a t.length cap, .string p] w (Ans11 (rmV t p.data.toList) w) := by
  have HE := Lib.hid h
  have HC := Lib.hid (standing11 t a cap p 2 w h ht hl hp)
  have HT := Lib.hid ht
  have HL := Lib.hid hl
  have HP := Lib.hid hp
  have HA := Lib.hid (fun o n v W h => at_er o p n v W h)
  have HMK := Lib.hid (mkunder11 p)
  obtain ⟨r, hr⟩ : ∃ r, rmV t p.data.toList = r := ⟨_, rfl⟩
  have HR := Lib.hid (hr.symm.trans (rmV_st t p.data.toList))
  rw [hr]
  have HCO : Hid (∀ W, Below w.heap.size w W → Calls Tryz.prog 108 #[.slice a t.length cap, .func (.func 149) #[] #[.pointer (some ⟨W.heap.size, 0, none⟩)]] (W.alloc (.cells #[.string p] 9)) fun e w' => e = .returned (.bool (t.any fun x => und (pl x) p.data.toList)) ∧ Below w.heap.size w w') := fun W hW => by
    have hb0 : Below W.heap.size W (W.alloc (.cells #[.string p] 9)) := (Below.refl _ _).alloc (Nat.le_refl _) _
    have hb1 := hW.trans (hb0.mono hW.size)
    refine (contains11 t a cap p W.heap.size _ (RowN.below HE.out hb1) (sm_tree ht (by omega)) (by simp) (by simp) hp).mono ?_
    rintro e w' ⟨rfl, hb⟩
    exact ⟨rfl, hb1.trans (hb.mono hb1.size)⟩
  clear h ht hl hp hr
  go_enter Tryz.func73, Tryz.ntmps73
  go_wp2_with fail
  refine (HC.out).mono ?_
  rintro e w1 ⟨i, er, rfl, her, hi, hb⟩
  have HB1 := Lib.hid hb
  have HE1 := Lib.hid (RowN.below HE.out hb)
  clear hb
  rcases her with ⟨h0, rfl⟩ | ⟨h0, herr⟩
  · have HR1 := Lib.hid (show r = if (t.any fun x => und (pl x) p.data.toList) = true then (7, []) else (0, wout t p.data.toList) by rw [HR.out, if_neg (not_not_intro h0)])
    have hfx : ∃ x, fnd t p.data.toList = some x := by
      unfold stK11 at h0
      by_cases h9 : hsV p.data.toList ≠ 0
      · rw [if_pos h9] at h0; exact absurd h0 h9
      · rw [if_neg h9] at h0
        cases hf : fnd t p.data.toList with
        | none => rw [hf] at h0; cases h0
        | some x => exact ⟨x, rfl⟩
    obtain ⟨x, hx⟩ := hfx
    have hi := hi h0
    subst hi
    have HCO1 := Lib.hid (HCO.out w1 HB1.out)
    have HW : Hid (∀ W, Below w.heap.size w W → _) := fun W hW => without11 t a cap p.data.toList x W (RowN.below HE.out hW) HT.out.2.1.2.1 (by have := HL.out; omega) hx
    obtain ⟨q, hq⟩ : ∃ q, (t.any fun x => und (pl x) p.data.toList) = q := ⟨_, rfl⟩
    rw [hq] at HCO1 HR1
    clear h0 hx hq HCO
    cases q with
    | true =>
      have HV := Lib.hid (show r = (7, []) by rw [HR1.out, if_pos rfl])
      go_wp2_with fail
      refine (HMK.out _).mono ?_
      rintro e w2 ⟨rfl, rfl⟩
      go_wp2_with fail
      refine (HCO1.out).mono ?_
      rintro e w3 ⟨rfl, hb⟩
      have HB3 := Lib.hid hb
      clear hb
      have HER := Lib.hid (er_no11 w3 7 (by decide))
      go_wp2_with fail
      refine (HA.out _ _ _ _ HER.out).mono ?_
      rintro e w4 ⟨er2, rfl, her, hb⟩
      have HB4 := Lib.hid (HB3.out.trans (hb.mono HB3.out.size))
      have HER2 := Lib.hid her
      clear hb her
      go_wp2
      go_ret2
      exact ⟨none, 0, er2, by rw [HV.out]; rfl, by rw [HV.out]; exact ents_nil _ _ _, by rw [HV.out]; exact HER2.out, HB4.out⟩
    | false =>
      have HV := Lib.hid (show r = (0, wout t p.data.toList) by rw [HR1.out, if_neg (by decide)])
      go_wp2_with fail
      refine (HMK.out _).mono ?_
      rintro e w2 ⟨rfl, rfl⟩
      go_wp2_with fail
      refine (HCO1.out).mono ?_
      rintro e w3 ⟨rfl, hb⟩
      have HB3 := Lib.hid hb
      clear hb
      have HW3 := Lib.hid (HW.out w3 HB3.out)
      clear HW
      go_wp2_with fail
      refine (HW3.out).mono ?_
      rintro e w4 ⟨a', cap', rfl, h2, hb⟩
      have HB4 := Lib.hid (HB3.out.trans (hb.mono HB3.out.size))
      have H2 := Lib.hid h2
      clear hb h2
      go_wp2
      go_ret2
      exact ⟨a', cap', .nilIface, by rw [HV.out]; rfl, by rw [HV.out]; exact H2.out, by rw [HV.out]; exact er_nil _, HB4.out⟩
  · have HV := Lib.hid (show r = (stK11 t p.data.toList 2, []) by rw [HR.out, if_pos h0])
    obtain ⟨u, y, rfl⟩ := herr.iface
    have HER := Lib.hid (show Er w1 (stK11 t p.data.toList 2) (.iface u y) from .inr ⟨h0, herr⟩)
    clear herr h0 hi
    go_wp2_with fail
    refine (HA.out _ _ _ _ HER.out).mono ?_
    rintro e w2 ⟨er2, rfl, her, hb⟩
    have HB2 := Lib.hid (HB1.out.trans (hb.mono HB1.out.size))
    have HER2 := Lib.hid her
    clear hb her
    go_wp2
    go_ret2
    exact ⟨none, 0, er2, by rw [HV.out]; rfl, by rw [HV.out]; exact ents_nil _ _ _, by rw [HV.out]; exact HER2.out, HB2.out⟩
set_option maxRecDepth 10000 in
set_option maxHeartbeats 4000000 in
theorem rename11 (t : List Ent) (a : Option Addr) (cap : Nat) (p q : ByteArray) (w : World) (h : Ents w a cap t) (ht : TreeL t) (hl : t.length ≤ 900) (hp : p.size ≤ 100000) (hq : q.size ≤ 100000) :
    Calls Tryz.prog 75 #[.slice a t.length cap, .string p, .string q] w (Ans11 (rnV t p q) w) := by
  have HE := Lib.hid h
  have HC := Lib.hid (standing11 t a cap p 1 w h ht hl hp)
  rw [flV_st ht.2] at HC
  have HT := Lib.hid ht
  have HL := Lib.hid hl
  have HA := Lib.hid (fun o x n v W h => at_er o x n v W h)
  have HV2 : Hid (∀ W, Below w.heap.size w W → _) := fun W hW => vacant11 t a cap q W (RowN.below HE.out hW) ht hl hq
  obtain ⟨r, hr⟩ : ∃ r, rnV t p q = r := ⟨_, rfl⟩
  have HR : Hid (r = if flV t p.data.toList ≠ 0 then (flV t p.data.toList, []) else if plcV t q.data.toList ≠ 0 then (plcV t q.data.toList, []) else (0, wth (wout t p.data.toList) (q, 1, datV t p.data.toList))) := hr.symm
  rw [hr]
  clear h ht hl hp hq hr
  go_enter Tryz.func75, Tryz.ntmps75
  go_wp2_with fail
  refine (HC.out).mono ?_
  rintro e w1 ⟨i, er, rfl, her, hi, hb⟩
  have HB1 := Lib.hid hb
  have HE1 := Lib.hid (RowN.below HE.out hb)
  clear hb
  rcases her with ⟨h0, rfl⟩ | ⟨h0, herr⟩
  · have HR1 := Lib.hid (show r = if plcV t q.data.toList ≠ 0 then (plcV t q.data.toList, []) else (0, wth (wout t p.data.toList) (q, 1, datV t p.data.toList)) by rw [HR.out, if_neg (not_not_intro h0)])
    obtain ⟨-, -, x, hx1, hx2, hx3, hx4, hx5⟩ := flV_ok HT.out.2 h0
    have hi := hi h0
    obtain ⟨K, hK⟩ : ∃ K, plc t p.data.toList = K := ⟨_, rfl⟩
    obtain ⟨hk, hxk⟩ : ∃ hk : K < t.length, t[K] = x := by
      obtain ⟨h1, h2, _⟩ := plc_some HT.out.2.1.2.1 hx4
      subst hK
      exact ⟨h1, h2⟩
    have HX := Lib.hid hxk
    have HW : Hid (∀ W, Below w.heap.size w W → _) := fun W hW => without11 t a cap p.data.toList x W (RowN.below HE.out hW) HT.out.2.1.2.1 (by have := HL.out; omega) hx4
    rw [hK] at HW hi
    subst hi
    have HX4 := Lib.hid (show (q, (1 : Int), datV t p.data.toList) = (q, x.2.1, x.2.2) by rw [hx5, hx3])
    have hk' : (K : Int) < (t.length : Int) := by omega
    have HVC := Lib.hid (HV2.out w1 HB1.out)
    clear h0 hx1 hx2 hx3 hx4 hx5 hK hxk HV2
    go_wp2_with fail
    refine (HVC.out).mono ?_
    rintro e w2 ⟨er, rfl, her, hb⟩
    have HB2 := Lib.hid (HB1.out.trans (hb.mono HB1.out.size))
    have HE2 := Lib.hid (RowN.below HE1.out hb)
    clear hb
    rcases her with ⟨h0, rfl⟩ | ⟨h0, herr⟩
    · have HV := Lib.hid (show r = (0, wth (wout t p.data.toList) (q, x.2.1, x.2.2)) by rw [HR1.out, if_neg (not_not_intro h0), HX4.out])
      have HPN := Lib.hid (plcV_ok HT.out.2.1.2.1 h0).2.2.2
      obtain ⟨b, off, rfl, _, hc⟩ := Ents.at HE2.out (Below.refl _ _) hk
      rw [HX.out] at hc
      have c0 := hc.c0
      have c1 := hc.c1
      have c2 := hc.c2
      obtain ⟨V, hV⟩ : ∃ V, w2.alloc (.cells #[.string q, .int .i64 x.2.1, .string x.2.2] 46) = V := ⟨_, rfl⟩
      obtain ⟨M, hM⟩ : ∃ M, w2.heap.size = M := ⟨_, rfl⟩
      have hbV : Below w2.heap.size w2 V := by rw [← hV]; exact (Below.refl _ _).alloc (Nat.le_refl _) _
      have HBV := Lib.hid (HB2.out.trans (hbV.mono HB2.out.size))
      have HQV := Lib.hid (show EnAt V M q x.2.1 x.2.2 by rw [← hV, ← hM]; exact enAt_new _ _ _ _)
      have HKS : Hid (∀ X, Below V.heap.size V X → X.cell? ⟨M, 0, none⟩ = some (.string q) ∧ X.cell? ⟨M, 1, none⟩ = some (.int .i64 x.2.1) ∧ X.cell? ⟨M, 2, none⟩ = some (.string x.2.2)) := fun X hX => ⟨(HQV.out.below hX).c0, (HQV.out.below hX).c1, (HQV.out.below hX).c2⟩
      obtain ⟨o, ho⟩ : ∃ o, wout t p.data.toList = o := ⟨_, rfl⟩
      have HOA := Lib.hid (show Asc o by rw [← ho]; exact asc_wout HT.out.2.1.2.1 _)
      have HOL := Lib.hid (show o.length ≤ 1000 by rw [← ho]; have := HL.out; have : (wout t p.data.toList).length ≤ t.length := List.length_filter_le _ _; omega)
      have HON := Lib.hid (show fnd o (pl (q, x.2.1, x.2.2)) = none by
        rw [← ho]
        exact fnd_none.2 fun y hy => fnd_none.1 HPN.out y (mem_wout.1 hy).1)
      have HA1 : Hid (Calls Tryz.prog 107 #[.slice (some ⟨b, off, none⟩) t.length cap, .int .i64 (K : Int)] V.drew fun e w' => ∃ a4 cap4, e = .returned (.slice a4 o.length cap4) ∧ Ents w' a4 cap4 o ∧ Below V.heap.size V w') := by
        refine (HW.out V.drew HBV.out.drew).mono ?_
        rw [ho]
        rintro e w' ⟨a4, cap4, rfl, h4, hb⟩
        exact ⟨a4, cap4, rfl, h4, ((Below.refl V.heap.size V).drew).trans hb⟩
      rw [ho] at HV
      obtain ⟨z, hz⟩ : ∃ z, wth o (q, x.2.1, x.2.2) = z := ⟨_, rfl⟩
      rw [hz] at HV
      have HA2 : Hid (∀ X a4 cap4, Ents X a4 cap4 o → Below V.heap.size V X → Calls Tryz.prog 111 #[.slice a4 o.length cap4, entV q x.2.1 x.2.2] X fun e w' => ∃ a5 cap5, e = .returned (.slice a5 z.length cap5) ∧ Ents w' a5 cap5 z ∧ Below V.heap.size V w') := fun X a4 cap4 h4 hX => by
        refine (with11 o a4 cap4 (q, x.2.1, x.2.2) X h4 HOA.out HOL.out HON.out).mono ?_
        rw [hz]
        rintro e w' ⟨a5, cap5, rfl, h5, hb⟩
        exact ⟨a5, cap5, rfl, h5, hX.trans (hb.mono hX.size)⟩
      clear h0 hc hbV ho hz HW
      go_wp2_with fail
      clear hV hM c0 c1 c2
      go_region_held3 (fun X => X.cell? ⟨M, 0, none⟩ = some (.string q) ∧ X.cell? ⟨M, 1, none⟩ = some (.int .i64 x.2.1) ∧ X.cell? ⟨M, 2, none⟩ = some (.string x.2.2))
        ((with_reducible refine HKS.out _ ?_; (first | with_reducible assumption | with_reducible exact Below.refl _ _ | with_reducible exact (Below.refl _ _).drew)))
        (first
        | (go_at_call 107; with_reducible refine (HA1.out).mono ?_; rintro e w4 ⟨a4, cap4, rfl, h4, hB4⟩)
        | (go_at_call 111; with_reducible refine (HA2.out _ _ _ h4 hB4).mono ?_; rintro e w5 ⟨a5, cap5, rfl, h5, hB5⟩))
      all_goals
        have HB5 := Lib.hid (HBV.out.trans (hB5.mono HBV.out.size))
        have HE5 := Lib.hid h5
        clear h4 hB4 h5 hB5
        go_wp2
        go_ret2
        exact ⟨a5, cap5, .nilIface, by rw [HV.out]; rfl, by rw [HV.out]; exact HE5.out, by rw [HV.out]; exact er_nil _, HB5.out⟩
    · have HV := Lib.hid (show r = (plcV t q.data.toList, []) by rw [HR1.out, if_pos h0])
      obtain ⟨u, y, rfl⟩ := herr.iface
      have HER := Lib.hid (show Er w2 (plcV t q.data.toList) (.iface u y) from .inr ⟨h0, herr⟩)
      clear herr h0
      go_wp2_with fail
      refine (HA.out _ _ _ _ _ HER.out).mono ?_
      rintro e w3 ⟨er2, rfl, her, hb⟩
      have HB3 := Lib.hid (HB2.out.trans (hb.mono HB2.out.size))
      have HER2 := Lib.hid her
      clear hb her
      go_wp2
      go_ret2
      exact ⟨none, 0, er2, by rw [HV.out]; rfl, by rw [HV.out]; exact ents_nil _ _ _, by rw [HV.out]; exact HER2.out, HB3.out⟩
  · have HV := Lib.hid (show r = (flV t p.data.toList, []) by rw [HR.out, if_pos h0])
    obtain ⟨u, y, rfl⟩ := herr.iface
    have HER := Lib.hid (show Er w1 (flV t p.data.toList) (.iface u y) from .inr ⟨h0, herr⟩)
    clear herr h0 hi HV2
    go_wp2_with fail
    refine (HA.out _ _ _ _ _ HER.out).mono ?_
    rintro e w2 ⟨er2, rfl, her, hb⟩
    have HB2 := Lib.hid (HB1.out.trans (hb.mono HB1.out.size))
    have HER2 := Lib.hid her
    clear hb her
    go_wp2
    go_ret2
    exact ⟨none, 0, er2, by rw [HV.out]; rfl, by rw [HV.out]; exact ents_nil _ _ _, by rw [HV.out]; exact HER2.out, HB2.out⟩
end Go.Proofs.YtjliagcalbdnhaaGreatDoor

namespace Go.Proofs.YtjliagcalbdnhaaGreatDoor
open Go.RowKit

theorem tree11 : Tree11 where
  tree l a cap w _ h hs := tree10 l a cap w h hs
  create t a cap p w _ h ht hl hp := create11 t a cap p w h ht hl hp
  mkdir t a cap p w _ h ht hl hp := mkdir11 t a cap p w h ht hl hp
  write t a cap p n s w _ h ht hl hp hn hs := write11 t a cap p n s w h ht hl hp hn hs
  cut t a cap p n w _ h ht hl hp hn := cut11 t a cap p n w h ht hl hp hn
  unlink t a cap p w _ h ht hl hp := unlink11 t a cap p w h ht hl hp
  rmdir t a cap p w _ h ht hl hp := rmdir11 t a cap p w h ht hl hp
  rename t a cap p q w _ h ht hl hp hq := rename11 t a cap p q w h ht hl hp hq
end Go.Proofs.YtjliagcalbdnhaaGreatDoor

namespace Go.Proofs.YtjliagcalbdnhaaGreatDoor
open Go.RowKit

/-- No entry. -/
abbrev noE11 : Ent := (⟨#[]⟩, 0, ⟨#[]⟩)
/-- What found answers: the error, what lies there. -/
def foV (t : List Ent) (p : List UInt8) : Int × Ent := if ¬ isP p then (2, noE11) else if (lyE t p).2.1 = 0 then (3, noE11) else (0, lyE t p)
/-- What sought answers. -/
def soV (t : List Ent) (p : List UInt8) (k : Int) : Int × Ent := if (foV t p).1 ≠ 0 then ((foV t p).1, noE11) else if othV (foV t p).2.2.1 k ≠ 0 then (othV (foV t p).2.2.1 k, noE11) else (0, (foV t p).2)
theorem rdV_so {t : List Ent} (ht : TR t) (p : List UInt8) : rdV t p = ((soV t p 1).1, (soV t p 1).2.2.2) := by
  unfold rdV soV foV kdV
  by_cases h1 : isP p
  · rw [if_neg (not_not_intro h1), if_neg (not_not_intro h1)]
    unfold lyE datV
    by_cases h2 : p = [47]
    · simp [h2, othV]
    · rw [if_neg h2, if_neg h2]
      cases hf : fnd t p with
      | none => simp
      | some e =>
        obtain ⟨h8, _⟩ := (fnd_some ht.1.2.1).1 hf
        have := kind_of (ht.1.1 e h8)
        have := ht.2 e h8
        have : e.2.1 = 1 ∨ e.2.1 = 2 := by omega
        rcases this with h | h <;> simp [h, othV]
  · simp [h1]
attribute [local go_sem] field_kind
attribute [local go_sem ↓] old_ldi old_lds
attribute [local go_sem] oldC_forall isC1_ptr isS1_ptr c1V_ptr
theorem enSet_other {w : World} {b c : Nat} (h : ¬ c = b) (p : ByteArray) (k : Int) (d : ByteArray) : (enSet w b p k d).heap[c]? = w.heap[c]? :=
  (Below.heap_setCell _ _ _ _ h).trans ((Below.heap_setCell _ _ _ _ h).trans (Below.heap_setCell _ _ _ _ h))
theorem chain_set11 /- of a Fault, 106 -/ {w : World} {n : Int} {b : Nat} {p d : ByteArray} {k : Int} (hO : EnAt w b p k d) (p' : ByteArray) (k' : Int) (d' : ByteArray) : ∀ {l : List (ByteArray × ByteArray)} {v : Value}, Chain w n l v → Chain (enSet w b p' k' d') n l v
  | [], _, h => h
  | x :: r, _, ⟨c, v', h1, h2, h3, h4, h5, h6⟩ => by
    have hne : ¬ c = b := fun e => by
      subst e
      have := hO.c1
      rw [Nat.zero_add, this] at h4
      cases h4
    have hb := enSet_other (w := w) hne p' k' d'
    have hz : c < (enSet w b p' k' d').heap.size := by
      have : (enSet w b p' k' d').heap[c]? = some w.heap[c] := hb.trans (Array.getElem?_eq_getElem h2)
      exact (Array.getElem?_eq_some_iff.1 this).1
    exact ⟨c, v', h1, hz, (World.cell?_of_block hb).trans h3, (World.cell?_of_block hb).trans h4, (World.cell?_of_block hb).trans h5, chain_set11 hO p' k' d' (l := r) h6⟩
theorem er_set11 {w : World} {n : Int} {v : Value} {b : Nat} {p d : ByteArray} {k : Int} (h : Er w n v) (hO : EnAt w b p k d) (p' : ByteArray) (k' : Int) (d' : ByteArray) : Er (enSet w b p' k' d') n v := h.imp_right fun ⟨h0, l, hl⟩ => ⟨h0, l, chain_set11 hO p' k' d' hl⟩
set_option maxRecDepth 10000 in
set_option maxHeartbeats 4000000 in
theorem found11 (t : List Ent) (a : Option Addr) (cap : Nat) (p : ByteArray) (w : World) (h : Ents w a cap t) (ht : TreeL t) (hl : t.length ≤ 900) (hp : p.size ≤ 100000) :
    Calls Tryz.prog 86 #[.slice a t.length cap, .string p] w fun e w' => ∃ er, e = .returned (.tuple #[enV (foV t p.data.toList).2, er]) ∧ Er w' (foV t p.data.toList).1 er ∧ Below w.heap.size w w' := by
  obtain ⟨V, hV⟩ : ∃ V, w.alloc (.cells #[.string ⟨#[]⟩, .int .i64 0, .string ⟨#[]⟩] 46) = V := ⟨_, rfl⟩
  obtain ⟨O, hO⟩ : ∃ O, w.heap.size = O := ⟨_, rfl⟩
  have hb1 : Below w.heap.size w V := by rw [← hV]; exact (Below.refl _ _).alloc (Nat.le_refl _) _
  have HR := Lib.hid (show EnAt V O ⟨#[]⟩ 0 ⟨#[]⟩ by rw [← hV, ← hO]; exact enAt_new _ _ _ _)
  have HOW := Lib.hid (show w.heap.size ≤ O by omega)
  have HB := Lib.hid hb1
  have HE := Lib.hid (RowN.below h hb1)
  have HC := Lib.hid (tree10 t a cap V HE.out (sm_tree ht (by omega)))
  rw [decide_eq_true ht] at HC
  have HD := Lib.hid (fun W => deep_any p (by omega) W)
  have HL : Hid (∀ W, Below w.heap.size w W → _) := fun W hW => lying11 t a cap p W (RowN.below h hW) ht.2.1.2.1 (by omega)
  have HF : Hid (foV t p.data.toList = if ¬ isP p.data.toList then (2, noE11) else if (lyE t p.data.toList).2.1 = 0 then (3, noE11) else (0, lyE t p.data.toList)) := rfl
  obtain ⟨r, hr⟩ : ∃ r, foV t p.data.toList = r := ⟨_, rfl⟩
  rw [hr] at HF ⊢
  obtain ⟨d, hd⟩ : ∃ d, dp p.data.toList = d := ⟨_, rfl⟩
  have HDP := Lib.hid (dp_lt (p := p.data.toList))
  rw [hd] at HD HDP
  obtain ⟨E, hE⟩ : ∃ E, lyE t p.data.toList = E := ⟨_, rfl⟩
  rw [hE] at HL HF
  clear h ht hl hp hr hd hE hb1
  go_enter Tryz.func86, Tryz.ntmps86
  go_wp2_with fail
  refine (HC.out).mono ?_
  rintro e w1 ⟨rfl, hb⟩
  have HB1 := Lib.hid (HB.out.trans (hb.mono HB.out.size))
  have HR1 := Lib.hid (HR.out.below hb)
  clear hb
  go_wp2_with fail
  refine (HD.out _).mono ?_
  rintro e w2 ⟨rfl, hb⟩
  have HB2 := Lib.hid (HB1.out.trans (hb.mono HB1.out.size))
  have HR2 := Lib.hid (HR1.out.below hb)
  clear hb
  by_cases h1 : d < 0
  · have HV := Lib.hid (show r = (2, noE11) by rw [HF.out, if_pos (HDP.out.1 h1)])
    have r0 := HR2.out.c0
    have r1 := HR2.out.c1
    have r2 := HR2.out.c2
    have f0 := HR2.out.f0
    have f1 := HR2.out.f1
    have f2 := HR2.out.f2
    go_wp2
    have hld := lv_en (HR2.out.set ⟨#[]⟩ 0 ⟨#[]⟩)
    refine bodyPost_ret (v := .tuple #[entV ⟨#[]⟩ 0 ⟨#[]⟩, .iface 61 (.int .i64 2)]) ?_ rfl ⟨.iface 61 (.int .i64 2), by rw [HV.out], by rw [HV.out]; exact er_no11 _ _ (by decide), below_en3 HB2.out HOW.out _ _ _⟩
    rw [results_cell_tmp rfl]
    simp [asAddr, Result.andThen, hld]
  · have HF1 := Lib.hid (show r = if E.2.1 = 0 then (3, noE11) else (0, E) by rw [HF.out, if_neg (fun h => h1 (HDP.out.2 h))])
    have HL2 := Lib.hid (HL.out w2 HB2.out)
    clear HF HDP HL
    go_wp2_with fail
    refine (HL2.out).mono ?_
    rintro e w3 ⟨rfl, hb⟩
    have HB3 := Lib.hid (HB2.out.trans (hb.mono HB2.out.size))
    have HR3 := Lib.hid (HR2.out.below hb)
    clear hb
    obtain ⟨V3, hV3⟩ : ∃ V, w3.alloc (.cells #[.string E.1, .int .i64 E.2.1, .string E.2.2] 46) = V := ⟨_, rfl⟩
    obtain ⟨M3, hM3⟩ : ∃ M, w3.heap.size = M := ⟨_, rfl⟩
    have hbV3 : Below w3.heap.size w3 V3 := by rw [← hV3]; exact (Below.refl _ _).alloc (Nat.le_refl _) _
    replace HB3 := Lib.hid (HB3.out.trans (hbV3.mono HB3.out.size))
    replace HR3 := Lib.hid (HR3.out.below hbV3)
    have HQ3 := Lib.hid (show EnAt V3 M3 E.1 E.2.1 E.2.2 by rw [← hV3, ← hM3]; exact enAt_new _ _ _ _)
    have q0 := HQ3.out.c0
    have q1 := HQ3.out.c1
    have q2 := HQ3.out.c2
    clear hbV3
    have r0 := HR3.out.c0
    have r1 := HR3.out.c1
    have r2 := HR3.out.c2
    have f0 := HR3.out.f0
    have f1 := HR3.out.f1
    have f2 := HR3.out.f2
    by_cases h2 : E.2.1 = 0
    · have HV := Lib.hid (show r = (3, noE11) by rw [HF1.out, if_pos h2])
      have g2 : (E.2.1 == 0) = true := beq_iff_eq.2 h2
      clear h2
      go_wp2
      have hld := lv_en (HR3.out.set ⟨#[]⟩ 0 ⟨#[]⟩)
      refine bodyPost_ret (v := .tuple #[entV ⟨#[]⟩ 0 ⟨#[]⟩, .iface 61 (.int .i64 3)]) ?_ rfl ⟨.iface 61 (.int .i64 3), by rw [HV.out], by rw [HV.out]; exact er_no11 _ _ (by decide), below_en3 HB3.out HOW.out _ _ _⟩
      rw [results_cell_tmp rfl]
      simp [asAddr, Result.andThen, hld]
    · have HV := Lib.hid (show r = (0, E) by rw [HF1.out, if_neg h2])
      have g2 : (E.2.1 == 0) = false := beq_eq_false_iff_ne.2 h2
      clear h2
      go_wp2
      have hld := lv_en (HR3.out.set E.1 E.2.1 E.2.2)
      refine bodyPost_ret (v := .tuple #[enV E, .nilIface]) ?_ rfl ⟨.nilIface, by rw [HV.out], by rw [HV.out]; exact er_nil _, below_en3 HB3.out HOW.out _ _ _⟩
      rw [results_cell_tmp rfl]
      simp [asAddr, Result.andThen, hld]
set_option maxRecDepth 10000 in
set_option maxHeartbeats 4000000 in
theorem sought11 (t : List Ent) (a : Option Addr) (cap : Nat) (p : ByteArray) (k : Int) (w : World) (h : Ents w a cap t) (ht : TreeL t) (hl : t.length ≤ 900) (hp : p.size ≤ 100000) :
    Calls Tryz.prog 45 #[.slice a t.length cap, .string p, .int .i64 k] w fun e w' => ∃ er, e = .returned (.tuple #[enV (soV t p.data.toList k).2, er]) ∧ Er w' (soV t p.data.toList k).1 er ∧ Below w.heap.size w w' := by
  obtain ⟨V, hV⟩ : ∃ V, w.alloc (.cells #[.string ⟨#[]⟩, .int .i64 0, .string ⟨#[]⟩] 46) = V := ⟨_, rfl⟩
  obtain ⟨O, hO⟩ : ∃ O, w.heap.size = O := ⟨_, rfl⟩
  have hb1 : Below w.heap.size w V := by rw [← hV]; exact (Below.refl _ _).alloc (Nat.le_refl _) _
  have HR := Lib.hid (show EnAt V O ⟨#[]⟩ 0 ⟨#[]⟩ by rw [← hV, ← hO]; exact enAt_new _ _ _ _)
  have HOW := Lib.hid (show w.heap.size ≤ O by omega)
  have HB := Lib.hid hb1
  have HC := Lib.hid (found11 t a cap p V (RowN.below h hb1) ht hl hp)
  have HS : Hid (soV t p.data.toList k = if (foV t p.data.toList).1 ≠ 0 then ((foV t p.data.toList).1, noE11) else if othV (foV t p.data.toList).2.2.1 k ≠ 0 then (othV (foV t p.data.toList).2.2.1 k, noE11) else (0, (foV t p.data.toList).2)) := rfl
  obtain ⟨f, hf⟩ : ∃ f, foV t p.data.toList = f := ⟨_, rfl⟩
  obtain ⟨r, hr⟩ : ∃ r, soV t p.data.toList k = r := ⟨_, rfl⟩
  rw [hf] at HC HS
  rw [hr] at HS ⊢
  obtain ⟨n, E⟩ := f
  have HO := Lib.hid (fun W => other11 E k W)
  clear h ht hl hp hr hf hb1
  go_enter Tryz.func45, Tryz.ntmps45
  go_wp2_with fail
  refine (HC.out).mono ?_
  rintro e w1 ⟨er, rfl, her, hb⟩
  have HB1 := Lib.hid (HB.out.trans (hb.mono HB.out.size))
  have HR1 := Lib.hid (HR.out.below hb)
  obtain ⟨V1, hV1⟩ : ∃ V, w1.alloc (.cells #[.string E.1, .int .i64 E.2.1, .string E.2.2] 46) = V := ⟨_, rfl⟩
  obtain ⟨M1, hM1⟩ : ∃ M, w1.heap.size = M := ⟨_, rfl⟩
  have hbV1 : Below w1.heap.size w1 V1 := by rw [← hV1]; exact (Below.refl _ _).alloc (Nat.le_refl _) _
  replace HB1 := Lib.hid (HB1.out.trans (hbV1.mono HB1.out.size))
  replace HR1 := Lib.hid (HR1.out.below hbV1)
  have HQ1 := Lib.hid (show EnAt V1 M1 E.1 E.2.1 E.2.2 by rw [← hV1, ← hM1]; exact enAt_new _ _ _ _)
  have q0 := HQ1.out.c0
  have q1 := HQ1.out.c1
  have q2 := HQ1.out.c2
  clear hbV1
  have HBV := Lib.hid (show Below w1.heap.size w1 V1 by rw [← hV1]; exact (Below.refl _ _).alloc (Nat.le_refl _) _)
  clear hb
  rcases her with ⟨h0, rfl⟩ | ⟨h0, herr⟩
  · have HS1 := Lib.hid (show r = if othV E.2.1 k ≠ 0 then (othV E.2.1 k, noE11) else (0, E) by rw [HS.out, if_neg (not_not_intro h0)])
    clear h0 HS
    go_wp2_with fail
    refine (HO.out _).mono ?_
    rintro e w2 ⟨er, rfl, her, hb⟩
    have HB2 := Lib.hid (HB1.out.trans (hb.mono HB1.out.size))
    have HR2 := Lib.hid (HR1.out.below hb)
    have HQ2 := Lib.hid (HQ1.out.below hb)
    clear hb q0 q1 q2
    have q0 := HQ2.out.c0
    have q1 := HQ2.out.c1
    have q2 := HQ2.out.c2
    have r0 := HR2.out.c0
    have r1 := HR2.out.c1
    have r2 := HR2.out.c2
    have f0 := HR2.out.f0
    have f1 := HR2.out.f1
    have f2 := HR2.out.f2
    rcases her with ⟨h0, rfl⟩ | ⟨h0, herr⟩
    · have HV := Lib.hid (show r = (0, E) by rw [HS1.out, if_neg (not_not_intro h0)])
      clear h0
      go_wp2
      have hld := lv_en (HR2.out.set E.1 E.2.1 E.2.2)
      refine bodyPost_ret (v := .tuple #[enV E, .nilIface]) ?_ rfl ⟨.nilIface, by rw [HV.out], by rw [HV.out]; exact er_nil _, below_en3 HB2.out HOW.out _ _ _⟩
      rw [results_cell_tmp rfl]
      simp [asAddr, Result.andThen, hld]
    · have HV := Lib.hid (show r = (othV E.2.1 k, noE11) by rw [HS1.out, if_pos h0])
      obtain ⟨u, y, rfl⟩ := herr.iface
      have HER := Lib.hid (show Er w2 (othV E.2.1 k) (.iface u y) from .inr ⟨h0, herr⟩)
      have HLT := Lib.hid (HR2.out.lt)
      clear herr h0
      go_wp2
      have hld := lv_en (HR2.out.set ⟨#[]⟩ 0 ⟨#[]⟩)
      refine bodyPost_ret (v := .tuple #[entV ⟨#[]⟩ 0 ⟨#[]⟩, .iface u y]) ?_ rfl ⟨.iface u y, by rw [HV.out], by rw [HV.out]; exact er_set11 HER.out HR2.out _ _ _, below_en3 HB2.out HOW.out _ _ _⟩
      rw [results_cell_tmp rfl]
      simp [asAddr, Result.andThen, hld]
  · have HV := Lib.hid (show r = (n, noE11) by rw [HS.out, if_pos h0])
    obtain ⟨u, y, rfl⟩ := herr.iface
    have HER := Lib.hid ((show Er w1 n (.iface u y) from .inr ⟨h0, herr⟩).below HBV.out)
    clear herr h0
    have r0 := HR1.out.c0
    have r1 := HR1.out.c1
    have r2 := HR1.out.c2
    have f0 := HR1.out.f0
    have f1 := HR1.out.f1
    have f2 := HR1.out.f2
    go_wp2
    have hld := lv_en (HR1.out.set ⟨#[]⟩ 0 ⟨#[]⟩)
    refine bodyPost_ret (v := .tuple #[entV ⟨#[]⟩ 0 ⟨#[]⟩, .iface u y]) ?_ rfl ⟨.iface u y, by rw [HV.out], by rw [HV.out]; exact er_set11 HER.out HR1.out _ _ _, below_en3 HB1.out HOW.out _ _ _⟩
    rw [results_cell_tmp rfl]
    simp [asAddr, Result.andThen, hld]
set_option maxRecDepth 10000 in
set_option maxHeartbeats 1000000 in
theorem read11 : Read11 := fun t a cap p w _ h ht hl hp => by
  rw [rdV_so ht.2]
  have HC := Lib.hid (sought11 t a cap p 1 w h ht hl hp)
  have HA := Lib.hid (fun o n v W h => at_er o p n v W h)
  obtain ⟨f, hf⟩ : ∃ f, soV t p.data.toList 1 = f := ⟨_, rfl⟩
  rw [hf] at HC ⊢
  obtain ⟨n, E⟩ := f
  clear h ht hl hp hf
  go_enter Tryz.func23, Tryz.ntmps23
  go_wp2_with fail
  refine (HC.out).mono ?_
  rintro e w1 ⟨er, rfl, her, hb⟩
  have HB1 := Lib.hid hb
  obtain ⟨V1, hV1⟩ : ∃ V, w1.alloc (.cells #[.string E.1, .int .i64 E.2.1, .string E.2.2] 46) = V := ⟨_, rfl⟩
  obtain ⟨M1, hM1⟩ : ∃ M, w1.heap.size = M := ⟨_, rfl⟩
  have hbV1 : Below w1.heap.size w1 V1 := by rw [← hV1]; exact (Below.refl _ _).alloc (Nat.le_refl _) _
  replace HB1 := Lib.hid (HB1.out.trans (hbV1.mono HB1.out.size))
  have HQ1 := Lib.hid (show EnAt V1 M1 E.1 E.2.1 E.2.2 by rw [← hV1, ← hM1]; exact enAt_new _ _ _ _)
  have HKS : Hid (∀ X, Below V1.heap.size V1 X → X.cell? ⟨M1, 2, none⟩ = some (.string E.2.2)) := fun X hX => (HQ1.out.below hX).c2
  have HA1 : Hid (∀ o, Calls Tryz.prog 34 #[.string o, .string p, er] V1.drew fun e w' => ∃ v', e = .returned v' ∧ Er w' n v' ∧ Below V1.heap.size V1 w') := fun o => by
    refine (HA.out o n er V1.drew ((her.below hbV1).below ((Below.refl _ _).drew))).mono ?_
    rintro e w' ⟨v', rfl, h1, hb⟩
    exact ⟨v', rfl, h1, ((Below.refl V1.heap.size V1).drew).trans hb⟩
  clear hb her hbV1 HC HA
  go_wp2_with fail
  clear hV1 hM1
  go_region_held3 (fun X => X.cell? ⟨M1, 2, none⟩ = some (.string E.2.2))
    ((with_reducible refine HKS.out _ ?_; (first | with_reducible assumption | with_reducible exact Below.refl _ _ | with_reducible exact (Below.refl _ _).drew)))
    (first
    | (go_at_call 34; with_reducible refine (HA1.out _).mono ?_; rintro e w2 ⟨er2, rfl, her, hB2⟩))
  all_goals
    have HB2 := Lib.hid (HB1.out.trans (hB2.mono HB1.out.size))
    have HER2 := Lib.hid her
    clear hB2 her
    go_wp2
    go_ret2
    exact ⟨er2, rfl, HER2.out, HB2.out⟩
end Go.Proofs.YtjliagcalbdnhaaGreatDoor
