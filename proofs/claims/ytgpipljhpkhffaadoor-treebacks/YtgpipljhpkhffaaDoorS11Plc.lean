/-
  Contracts of package tree's closure that compares an entry with a path, of slices.BinarySearchFunc with it, and of place: where in a rising list an entry at a path stands or would stand, and whether one does. Conditions: the list lies in memory, rises, has at most 1000 entries.
-/
import Derived.Test.YtgpipljhpkhffaaDoorS9PlcM
import Derived.Test.YtgpipljhpkhffaaDoorStrCmp
import Derived.Deep.LoopGhost
import Derived.Lib.Hide
import Derived.IntWalk
import Derived.Laws.Cover1
namespace Go.Proofs.YtgpipljhpkhffaaDoor
open Go.RowKit

set_option maxRecDepth 10000 in
set_option maxHeartbeats 1000000 in
theorem clo11 (x : Ent) (p : ByteArray) (W : World) : Calls Tryd.prog 68 #[enV x, .string p] W fun e w' => e = .returned (.int .i64 (Lib.compareBytes (pl x) p.data.toList)) ∧ Below W.heap.size W w' := by
  have HC := Lib.hid (fun W' => cmp10 x.1 p W')
  obtain ⟨r, hr⟩ : ∃ r, Lib.compareBytes (pl x) p.data.toList = r := ⟨_, rfl⟩
  unfold pl at hr
  rw [hr] at HC
  rw [show Lib.compareBytes (pl x) p.data.toList = r from hr]
  clear hr
  go_enter Tryd.func68, Tryd.ntmps68
  go_wp2_with fail
  refine (HC.out _).mono ?_
  rintro e w' ⟨rfl, rfl⟩
  go_wp2
  go_ret
  exact ⟨rfl, (Below.refl _ _).alloc (Nat.le_refl _) _⟩
set_option maxRecDepth 10000 in
set_option maxHeartbeats 2000000 in
theorem search11 (l : List Ent) (a : Option Addr) (cap : Nat) (p : ByteArray) (w : World) (h : Ents w a cap l) (hA : Asc l) (hl : l.length ≤ 1000) :
    Calls Tryd.prog 67 #[.slice a l.length cap, .string p, .func (.func 68) #[] #[]] w fun e w' => e = .returned (.tuple #[.int .i64 (plc l p.data.toList : Nat), .bool (fnd l p.data.toList).isSome]) ∧ Below w.heap.size w w' := by
  obtain ⟨K, hK⟩ : ∃ K, plc l p.data.toList = K := ⟨_, rfl⟩
  have HK := Lib.hid (show K ≤ l.length by rw [← hK]; exact plc_le _ _)
  have HAT := Lib.hid (fun i (hi : i < l.length) => plc_at hA p.data.toList hi)
  have HFN := Lib.hid (plc_fnd hA p.data.toList)
  have HE := Lib.hid h
  rw [hK] at HFN ⊢
  have HKK := Lib.hid hK
  obtain ⟨R, hR⟩ : ∃ R, (fnd l p.data.toList).isSome = R := ⟨_, rfl⟩
  rw [hR]
  have HR := Lib.hid hR
  clear h hA hK hR
  go_enter Tryd.func67, Tryd.ntmps67
  go_wp2
  go_loopg [9, 10] l.length (fun g s5 s6 wr => ∃ (lo hi : Nat), s5 = .int .i64 (lo : Int) ∧ s6 = .int .i64 (hi : Int) ∧ lo ≤ hi ∧ hi ≤ l.length ∧ hi - lo ≤ g ∧ Hid (lo ≤ K ∧ K ≤ hi) ∧ Hid (Below w.heap.size w wr))
  case atStart => exact ⟨0, l.length, rfl, rfl, Nat.zero_le _, Nat.le_refl _, by omega, ⟨by omega, HK.out⟩, Below.refl _ _⟩
  case round =>
    obtain ⟨lo, hi, rfl, rfl, hlh, hin, hg, HI, HB⟩ := hrel
    by_cases hlt : lo < hi
    · have hmid : (lo + hi) / 2 < l.length := by omega
      obtain ⟨b, off, rfl, hb, hc⟩ := Ents.at HE.out HB.out hmid
      have HA2 := Lib.hid (HAT.out _ hmid)
      obtain ⟨x, hx⟩ : ∃ x, l[(lo + hi) / 2] = x := ⟨_, rfl⟩
      rw [hx] at hc HA2
      have c0 := hc.c0
      have c1 := hc.c1
      have c2 := hc.c2
      have HC := Lib.hid (clo11 x p wr)
      obtain ⟨r, hr⟩ : ∃ r, Lib.compareBytes (pl x) p.data.toList = r := ⟨_, rfl⟩
      have HLT := Lib.hid (compare_lt (pl x) p.data.toList)
      rw [HA2.out, HKK.out, hr] at HLT
      rw [hr] at HC
      clear hc hx hb hr
      by_cases hp : r < 0
      · have HP := Lib.hid (show (lo + hi) / 2 < K by have := HLT.out; simpa [hp] using this)
        go_wp2_with fail
        refine (HC.out).mono ?_
        rintro e w1 ⟨rfl, hb⟩
        have HB1 := Lib.hid (HB.out.trans (hb.mono HB.out.size))
        clear hb
        go_wp2
        go_roundg (hi - ((lo + hi) / 2 + 1))
        case measure => omega
        case rel => exact ⟨(lo + hi) / 2 + 1, hi, by rw [show ((lo : Int) + (hi : Int)) / 2 + 1 = (((lo + hi) / 2 + 1 : Nat) : Int) by omega], rfl, by omega, hin, Nat.le_refl _, ⟨by have := HP.out; omega, HI.out.2⟩, HB1.out⟩
      · have HP := Lib.hid (show K ≤ (lo + hi) / 2 by have := HLT.out; simpa [hp] using this)
        go_wp2_with fail
        refine (HC.out).mono ?_
        rintro e w1 ⟨rfl, hb⟩
        have HB1 := Lib.hid (HB.out.trans (hb.mono HB.out.size))
        clear hb
        go_wp2
        go_roundg ((lo + hi) / 2 - lo)
        case measure => omega
        case rel => exact ⟨lo, (lo + hi) / 2, rfl, by rw [show ((lo : Int) + (hi : Int)) / 2 = (((lo + hi) / 2 : Nat) : Int) by omega], by omega, by omega, Nat.le_refl _, ⟨HI.out.1, HP.out⟩, HB1.out⟩
    · obtain rfl : lo = K := by have := HI.out; omega
      obtain rfl : hi = lo := by omega
      by_cases hend : hi < l.length
      · have hend' : (hi : Int) < (l.length : Int) := by omega
        obtain ⟨b, off, rfl, hb, hc⟩ := Ents.at HE.out HB.out hend
        have hf := HFN.out
        rw [List.getElem?_eq_getElem hend, Option.bind_some] at hf
        obtain ⟨x, hx⟩ : ∃ x, l[hi] = x := ⟨_, rfl⟩
        rw [hx] at hc hf
        have c0 := hc.c0
        have c1 := hc.c1
        have c2 := hc.c2
        have HC := Lib.hid (clo11 x p wr)
        obtain ⟨r, hr⟩ : ∃ r, Lib.compareBytes (pl x) p.data.toList = r := ⟨_, rfl⟩
        have hz := compare_zero (pl x) p.data.toList
        rw [hr] at hz HC
        have HV := Lib.hid (show (r == 0) = R by
          rw [← HR.out, hf, show (r == 0) = decide (r = 0) from rfl, hz]
          by_cases hp : pl x = p.data.toList
          · rw [if_pos hp, decide_eq_true hp]; rfl
          · rw [if_neg hp, decide_eq_false hp]; rfl)
        clear hc hx hb hr hf hz HFN
        go_wp2_with fail
        refine (HC.out).mono ?_
        rintro e w1 ⟨rfl, hb⟩
        have HB1 := Lib.hid (HB.out.trans (hb.mono HB.out.size))
        clear hb
        go_wp2
        go_ret2
        exact ⟨by rw [← HV.out]; rfl, HB1.out⟩
      · have hend' : ¬ (hi : Int) < (l.length : Int) := by omega
        have hf := HFN.out
        rw [List.getElem?_eq_none (by omega), Option.bind_none] at hf
        have HV := Lib.hid (show R = false by rw [← HR.out, hf]; rfl)
        clear hf HFN
        go_wp2
        go_ret2
        exact ⟨by rw [HV.out]; rfl, HB.out⟩
set_option maxRecDepth 10000 in
set_option maxHeartbeats 1000000 in
theorem place11 (l : List Ent) (a : Option Addr) (cap : Nat) (p : ByteArray) (w : World) (h : Ents w a cap l) (hA : Asc l) (hl : l.length ≤ 1000) :
    Calls Tryd.prog 49 #[.slice a l.length cap, .string p] w fun e w' => e = .returned (.tuple #[.int .i64 (plc l p.data.toList : Nat), .bool (fnd l p.data.toList).isSome]) ∧ Below w.heap.size w w' := by
  have HC := Lib.hid (search11 l a cap p w h hA hl)
  have hmf : ∀ (fn : Fn) (first cap : Array Value) (w : World), (Instr.makeFunc fn first cap).run Tryd.prog w = .ok (.func fn first cap) w := fun _ _ _ _ => rfl
  obtain ⟨K, hK⟩ : ∃ K, plc l p.data.toList = K := ⟨_, rfl⟩
  obtain ⟨q, hq⟩ : ∃ q, (fnd l p.data.toList).isSome = q := ⟨_, rfl⟩
  rw [hK, hq] at HC ⊢
  clear h hA hl hK hq
  go_enter Tryd.func49, Tryd.ntmps49
  go_wp2_with fail
  refine (HC.out).mono ?_
  rintro e w1 ⟨rfl, hb⟩
  have HB := Lib.hid hb
  clear hb
  go_wp2
  go_ret2
  exact ⟨rfl, HB.out⟩
end Go.Proofs.YtgpipljhpkhffaaDoor
