/-
  Contracts of package tree's closure that compares an entry with a path, of slices.BinarySearchFunc with it, and of place: where in a rising list an entry at a path stands or would stand, and whether one does. Conditions: the list lies in memory, rises, has at most 1000 entries.
  Two lists of entries, three lists, laid as a slice of slices in new memory. No condition.
  Contracts of package tree's with and without: a tree with an entry where none stands, without the one that stands at a place. Conditions: the list lies in memory, rises, has at most 1000 entries.
  What package tree's functions, and package fold's Tree, answer of a tree, as one statement about all of them (Tree11): the laws of layer 11 are walked over it. Conditions: a tree in memory, of at most 1000 entries, texts of at most 100000 bytes; errorType holds error's type.
  Contracts of package tree's lying, other, house, standing, vacant, made. Conditions: a tree in memory, of at most 900 entries, texts of at most 100000 bytes.
  Contracts of package tree's standing, vacant, made, Create and Mkdir. Conditions: a tree in memory, of at most 900 entries, texts of at most 100000 bytes.
  What package tree's Read answers of a tree, as one statement (Read11). Conditions: a tree in memory, of at most 900 entries, texts of at most 100000 bytes; errorType holds error's type.
  Contracts of package tree's found, sought and Read: the landed code's Read answers as Read11 says. Conditions: a tree in memory, of at most 900 entries, texts of at most 100000 bytes.
-/
import Derived.Test.YtlncdmdffpaojaaGreatDoorPd
import Derived.Deep.LoopGhost
import Derived.Lib.Hide
import Derived.IntWalk
import Derived.Laws.Cover1
import Derived.Test.YtlncdmdffpaojaaGreatDoorPm
import Derived.Test.YtlncdmdffpaojaaGreatDoorPh
import Derived.Test.YtlncdmdffpaojaaGreatDoorPb
import Derived.Deep.RegionHeld3
import Derived.Test.YtlncdmdffpaojaaGreatDoorPc
import Derived.Test.YtlncdmdffpaojaaGreatDoorPj
import Derived.Test.YtlncdmdffpaojaaGreatDoorAtEr
import Derived.Laws.ResultCell
namespace Go.Proofs.YtlncdmdffpaojaaGreatDoor
open Go.RowKit

set_option maxRecDepth 10000 in
set_option maxHeartbeats 1000000 in
theorem clo11 (x : Ent) (p : ByteArray) (W : World) : Calls Tryz.prog 117 #[enV x, .string p] W fun e w' => e = .returned (.int .i64 (Lib.compareBytes (pl x) p.data.toList)) ∧ Below W.heap.size W w' := by
  have HC := Lib.hid (fun W' => cmp10 x.1 p W')
  obtain ⟨r, hr⟩ : ∃ r, Lib.compareBytes (pl x) p.data.toList = r := ⟨_, rfl⟩
  unfold pl at hr
  rw [hr] at HC
  rw [show Lib.compareBytes (pl x) p.data.toList = r from hr]
  clear hr
  go_enter Tryz.func117, Tryz.ntmps117
  go_wp2_with fail
  refine (HC.out _).mono ?_
  rintro e w' ⟨rfl, rfl⟩
  go_wp2
  go_ret
  exact ⟨rfl, (Below.refl _ _).alloc (Nat.le_refl _) _⟩
set_option maxRecDepth 10000 in
set_option maxHeartbeats 2000000 in
theorem search11 (l : List Ent) (a : Option Addr) (cap : Nat) (p : ByteArray) (w : World) (h : Ents w a cap l) (hA : Asc l) (hl : l.length ≤ 1000) :
    Calls Tryz.prog 103 #[.slice a l.length cap, .string p, .func (.func 117) #[] #[]] w fun e w' => e = .returned (.tuple #[.int .i64 (plc l p.data.toList : Nat), .bool (fnd l p.data.toList).isSome]) ∧ Below w.heap.size w w' := by
  obtain ⟨K, hK⟩ : ∃ K, plc l p.data.toList = K := ⟨_, rfl⟩
  have HK := Lib.hid (show K ≤ l.length by rw [← hK]; exact plc_le _ _)
  have HAT := Lib.hid (fun i (hi : i < l.length) => plc_at hA p.data.toList hi)
  have HFN := Lib.hid (plc_fnd hA p.data.toList)
  have HE := Lib.hid h
  rw [hK] at HFN ⊢
  have HKK := Lib.hid hK
  obtain ⟨R, hR⟩ : ∃ R, (fnd l p.data.toList).isSome = R := ⟨_, rfl⟩
  rw [hR]
  have HR := Lib.hid hR
  clear h hA hK hR
  go_enter Tryz.func103, Tryz.ntmps103
  go_wp2
  go_loopg [9, 10] l.length (fun g s5 s6 wr => ∃ (lo hi : Nat), s5 = .int .i64 (lo : Int) ∧ s6 = .int .i64 (hi : Int) ∧ lo ≤ hi ∧ hi ≤ l.length ∧ hi - lo ≤ g ∧ Hid (lo ≤ K ∧ K ≤ hi) ∧ Hid (Below w.heap.size w wr))
  case atStart => exact ⟨0, l.length, rfl, rfl, Nat.zero_le _, Nat.le_refl _, by omega, ⟨by omega, HK.out⟩, Below.refl _ _⟩
  case round =>
    obtain ⟨lo, hi, rfl, rfl, hlh, hin, hg, HI, HB⟩ := hrel
    by_cases hlt : lo < hi
    · have hmid : (lo + hi) / 2 < l.length := by omega
      obtain ⟨b, off, rfl, hb, hc⟩ := Ents.at HE.out HB.out hmid
      have HA2 := Lib.hid (HAT.out _ hmid)
      obtain ⟨x, hx⟩ : ∃ x, l[(lo + hi) / 2] = x := ⟨_, rfl⟩
      rw [hx] at hc HA2
      have c0 := hc.c0
      have c1 := hc.c1
      have c2 := hc.c2
      have HC := Lib.hid (clo11 x p wr)
      obtain ⟨r, hr⟩ : ∃ r, Lib.compareBytes (pl x) p.data.toList = r := ⟨_, rfl⟩
      have HLT := Lib.hid (compare_lt (pl x) p.data.toList)
      rw [HA2.out, HKK.out, hr] at HLT
      rw [hr] at HC
      clear hc hx hb hr
      by_cases hp : r < 0
      · have HP := Lib.hid (show (lo + hi) / 2 < K by have := HLT.out; simpa [hp] using this)
        go_wp2_with fail
        refine (HC.out).mono ?_
        rintro e w1 ⟨rfl, hb⟩
        have HB1 := Lib.hid (HB.out.trans (hb.mono HB.out.size))
        clear hb
        go_wp2
        go_roundg (hi - ((lo + hi) / 2 + 1))
        case measure => omega
        case rel => exact ⟨(lo + hi) / 2 + 1, hi, by rw [show ((lo : Int) + (hi : Int)) / 2 + 1 = (((lo + hi) / 2 + 1 : Nat) : Int) by omega], rfl, by omega, hin, Nat.le_refl _, ⟨by have := HP.out; omega, HI.out.2⟩, HB1.out⟩
      · have HP := Lib.hid (show K ≤ (lo + hi) / 2 by have := HLT.out; simpa [hp] using this)
        go_wp2_with fail
        refine (HC.out).mono ?_
        rintro e w1 ⟨rfl, hb⟩
        have HB1 := Lib.hid (HB.out.trans (hb.mono HB.out.size))
        clear hb
        go_wp2
        go_roundg ((lo + hi) / 2 - lo)
        case measure => omega
        case rel => exact ⟨lo, (lo + hi) / 2, rfl, by rw [show ((lo : Int) + (hi : Int)) / 2 = (((lo + hi) / 2 : Nat) : Int) by omega], by omega, by omega, Nat.le_refl _, ⟨HI.out.1, HP.out⟩, HB1.out⟩
    · obtain rfl : lo = K := by have := HI.out; omega
      obtain rfl : hi = lo := by omega
      by_cases hend : hi < l.length
      · have hend' : (hi : Int) < (l.length : Int) := by omega
        obtain ⟨b, off, rfl, hb, hc⟩ := Ents.at HE.out HB.out hend
        have hf := HFN.out
        rw [List.getElem?_eq_getElem hend, Option.bind_some] at hf
        obtain ⟨x, hx⟩ : ∃ x, l[hi] = x := ⟨_, rfl⟩
        rw [hx] at hc hf
        have c0 := hc.c0
        have c1 := hc.c1
        have c2 := hc.c2
        have HC := Lib.hid (clo11 x p wr)
        obtain ⟨r, hr⟩ : ∃ r, Lib.compareBytes (pl x) p.data.toList = r := ⟨_, rfl⟩
        have hz := compare_zero (pl x) p.data.toList
        rw [hr] at hz HC
        have HV := Lib.hid (show (r == 0) = R by
          rw [← HR.out, hf, show (r == 0) = decide (r = 0) from rfl, hz]
          by_cases hp : pl x = p.data.toList
          · rw [if_pos hp, decide_eq_true hp]; rfl
          · rw [if_neg hp, decide_eq_false hp]; rfl)
        clear hc hx hb hr hf hz HFN
        go_wp2_with fail
        refine (HC.out).mono ?_
        rintro e w1 ⟨rfl, hb⟩
        have HB1 := Lib.hid (HB.out.trans (hb.mono HB.out.size))
        clear hb
        go_wp2
        go_ret2
        exact ⟨by rw [← HV.out]; rfl, HB1.out⟩
      · have hend' : ¬ (hi : Int) < (l.length : Int) := by omega
        have hf := HFN.out
        rw [List.getElem?_eq_none (by omega), Option.bind_none] at hf
        have HV := Lib.hid (show R = false by rw [← HR.out, hf]; rfl)
        clear hf HFN
        go_wp2
        go_ret2
        exact ⟨by rw [HV.out]; rfl, HB.out⟩
set_option maxRecDepth 10000 in
set_option maxHeartbeats 1000000 in
theorem place11 (l : List Ent) (a : Option Addr) (cap : Nat) (p : ByteArray) (w : World) (h : Ents w a cap l) (hA : Asc l) (hl : l.length ≤ 1000) :
    Calls Tryz.prog 106 #[.slice a l.length cap, .string p] w fun e w' => e = .returned (.tuple #[.int .i64 (plc l p.data.toList : Nat), .bool (fnd l p.data.toList).isSome]) ∧ Below w.heap.size w w' := by
  have HC := Lib.hid (search11 l a cap p w h hA hl)
  have hmf : ∀ (fn : Fn) (first cap : Array Value) (w : World), (Instr.makeFunc fn first cap).run Tryz.prog w = .ok (.func fn first cap) w := fun _ _ _ _ => rfl
  obtain ⟨K, hK⟩ : ∃ K, plc l p.data.toList = K := ⟨_, rfl⟩
  obtain ⟨q, hq⟩ : ∃ q, (fnd l p.data.toList).isSome = q := ⟨_, rfl⟩
  rw [hK, hq] at HC ⊢
  clear h hA hl hK hq
  go_enter Tryz.func106, Tryz.ntmps106
  go_wp2_with fail
  refine (HC.out).mono ?_
  rintro e w1 ⟨rfl, hb⟩
  have HB := Lib.hid hb
  clear hb
  go_wp2
  go_ret2
  exact ⟨rfl, HB.out⟩
end Go.Proofs.YtlncdmdffpaojaaGreatDoor

namespace Go.Proofs.YtlncdmdffpaojaaGreatDoor
open Go.RowKit

theorem stk2_new (w : World) (a1 a2 : Option Addr) (c1 c2 : Nat) (l1 l2 : List Ent) (h1 : Ents w a1 c1 l1) (h2 : Ents w a2 c2 l2) : Stk (w.alloc (.cells #[.slice a1 l1.length c1, .slice a2 l2.length c2] 25)) (some ⟨w.heap.size, 0, none⟩) 2 [l1, l2] := by
  have hb : Below w.heap.size w (w.alloc (.cells #[.slice a1 l1.length c1, .slice a2 l2.length c2] 25)) := (Below.refl _ _).alloc (Nat.le_refl _) _
  refine ⟨Nat.le_refl _, .inr ⟨w.heap.size, 0, rfl, by simp, fun j l hl => ?_⟩⟩
  match j, hl with
  | 0, hl => obtain rfl : l1 = l := by simpa using hl
             exact ⟨a1, c1, (cell_of8 (heap_alloc_new _ _) (j := 0 + 0) rfl).1, RowN.below h1 hb⟩
  | 1, hl => obtain rfl : l2 = l := by simpa using hl
             exact ⟨a2, c2, (cell_of8 (heap_alloc_new _ _) (j := 0 + 1) rfl).1, RowN.below h2 hb⟩
theorem Stk.drew {w : World} {a : Option Addr} {cap : Nat} {S : List (List Ent)} (h : Stk w a cap S) : Stk w.drew a cap S := h.below ((Below.refl _ _).drew)
/-- Three lists, the second one of one entry, in new memory. -/
def W3 (w : World) (a1 a3 : Option Addr) (n1 n3 c1 c3 : Nat) (x : Ent) : World := ((w.alloc (.cells #[.string x.1, .int .i64 x.2.1, .string x.2.2] 34)).alloc (.cells #[.slice a1 n1 c1, .slice (some ⟨w.heap.size, 0, none⟩) 1 1, .slice a3 n3 c3] 25)).drew
theorem stk3_new (w : World) (a1 a3 : Option Addr) (c1 c3 : Nat) (l1 l3 : List Ent) (x : Ent) (h1 : Ents w a1 c1 l1) (h3 : Ents w a3 c3 l3) : Stk (W3 w a1 a3 l1.length l3.length c1 c3 x) (some ⟨w.heap.size + 1, 0, none⟩) 3 [l1, [x], l3] ∧ Below w.heap.size w (W3 w a1 a3 l1.length l3.length c1 c3 x) := by
  unfold W3
  have hb0 : Below w.heap.size w (w.alloc (.cells #[.string x.1, .int .i64 x.2.1, .string x.2.2] 34)) := (Below.refl _ _).alloc (Nat.le_refl _) _
  have hn := enAt_new w x.1 x.2.1 x.2.2
  have hz : (w.alloc (.cells #[.string x.1, .int .i64 x.2.1, .string x.2.2] 34)).heap.size = w.heap.size + 1 := by simp
  obtain ⟨V, hV⟩ : ∃ V, w.alloc (.cells #[.string x.1, .int .i64 x.2.1, .string x.2.2] 34) = V := ⟨_, rfl⟩
  rw [hV] at hb0 hn hz ⊢
  have hb : Below V.heap.size V (V.alloc (.cells #[.slice a1 l1.length c1, .slice (some ⟨w.heap.size, 0, none⟩) 1 1, .slice a3 l3.length c3] 25)) := (Below.refl _ _).alloc (Nat.le_refl _) _
  have hk := heap_alloc_new V (.cells #[.slice a1 l1.length c1, .slice (some ⟨w.heap.size, 0, none⟩) 1 1, .slice a3 l3.length c3] 25)
  rw [hz] at hk
  refine ⟨Stk.drew ⟨Nat.le_refl _, .inr ⟨w.heap.size + 1, 0, rfl, by simp [hz], fun j l hl => ?_⟩⟩, (hb0.trans (hb.mono hb0.size)).drew⟩
  match j, hl with
  | 0, hl => obtain rfl : l1 = l := by simpa using hl
             exact ⟨a1, c1, (cell_of8 hk (j := 0 + 0) rfl).1, RowN.below (RowN.below h1 hb0) hb⟩
  | 1, hl => obtain rfl : [x] = l := by simpa using hl
             refine ⟨some ⟨w.heap.size, 0, none⟩, 1, (cell_of8 hk (j := 0 + 1) rfl).1, Nat.le_refl _, .inr ⟨w.heap.size, 0, rfl, by simp [hz]; omega, fun j y hy => ?_⟩⟩
             obtain ⟨rfl, rfl⟩ : j = 0 ∧ x = y := by
               cases j with
               | zero => exact ⟨rfl, by simpa using hy⟩
               | succ j => simp at hy
             exact fun i v hv => by have := rangeAt_below hn.range hb (by omega) i v hv; simpa using this
  | 2, hl => obtain rfl : l3 = l := by simpa using hl
             exact ⟨a3, c3, (cell_of8 hk (j := 0 + 2) rfl).1, RowN.below (RowN.below h3 hb0) hb⟩
end Go.Proofs.YtlncdmdffpaojaaGreatDoor

namespace Go.Proofs.YtlncdmdffpaojaaGreatDoor
open Go.RowKit

end Go.Proofs.YtlncdmdffpaojaaGreatDoor

namespace Go.Proofs.YtlncdmdffpaojaaGreatDoor
open Go.RowKit

/-- A tree and an error are answered. -/
def Ans11 (r : Int × List Ent) (w : World) (e : Ending) (w' : World) : Prop := ∃ a' cap' er, e = .returned (.tuple #[.slice a' r.2.length cap', er]) ∧ Ents w' a' cap' r.2 ∧ Er w' r.1 er ∧ Below w.heap.size w w'
theorem sm_tree {t : List Ent} (h : TreeL t) (hl : t.length ≤ 1000) : Sm t := ⟨hl, fun e he => by
  obtain ⟨h1, _, _, h4, _⟩ := rightE_parts (h.2.1.1 e he)
  have h54 := isP_len (isP_of_dp h1)
  rw [← Lib.size_eq] at h54
  omega⟩
theorem treeL_nil : TreeL [] := ⟨by simp, tr_nil⟩
end Go.Proofs.YtlncdmdffpaojaaGreatDoor

namespace Go.Proofs.YtlncdmdffpaojaaGreatDoor
open Go.RowKit

/-- What lies at a path of a tree; of nothing the kind is 0. -/
def lyE (t : List Ent) (p : List UInt8) : Ent := if p = [47] then (⟨#[47]⟩, 2, ⟨#[]⟩) else (fnd t p).getD (⟨#[]⟩, 0, ⟨#[]⟩)
/-- Why what lies there isn't of a kind; 0: it is. -/
def othV (a k : Int) : Int := if a = k then 0 else if a = 2 then 5 else 6
/-- Why a path is no place of an entry; 0: it is. -/
def hsV (p : List UInt8) : Int := if ¬ isP p then 2 else if p = [47] then 1 else 0
/-- Why there is nothing of a kind at a path; 0: there is. -/
def stK11 (t : List Ent) (p : List UInt8) (k : Int) : Int := if hsV p ≠ 0 then hsV p else match fnd t p with
  | none => 3
  | some e => othV e.2.1 k
theorem plcV_ly {t : List Ent} (ht : TR t) (p : List UInt8) : plcV t p = if hsV p ≠ 0 then hsV p else if (lyE t (par9 p)).2.1 = 0 then 3 else if (lyE t (par9 p)).2.1 = 1 then 6 else if (lyE t p).2.1 ≠ 0 then 4 else 0 := by
  unfold plcV hsV
  by_cases h1 : isP p
  · rw [if_neg (not_not_intro h1), if_neg (not_not_intro h1)]
    by_cases h2 : p = [47]
    · rw [if_pos h2, if_pos h2]; rfl
    · rw [if_neg h2, if_neg h2]
      have h7 : isP (par9 p) := (par9_isP h1 h2).1
      have hK : ∀ e ∈ t, e.2.1 = 1 ∨ e.2.1 = 2 := fun e he => by
        have := kind_of (ht.1.1 e he)
        have := ht.2 e he
        omega
      have e1 : (fnd t p).isSome = true ↔ (lyE t p).2.1 ≠ 0 := by
        unfold lyE
        rw [if_neg h2]
        cases hf : fnd t p with
        | none => simp
        | some e =>
          obtain ⟨h8, _⟩ := (fnd_some ht.1.2.1).1 hf
          rcases hK e h8 with h | h <;> simp [h]
      have e2 : kdV t (par9 p) = if (lyE t (par9 p)).2.1 = 0 then (3, 0) else (0, (lyE t (par9 p)).2.1) := by
        unfold kdV lyE
        rw [if_neg (not_not_intro h7)]
        by_cases h6 : par9 p = [47]
        · rw [if_pos h6, if_pos h6]; rfl
        · rw [if_neg h6, if_neg h6]
          cases hf : fnd t (par9 p) with
          | none => rfl
          | some e =>
            obtain ⟨h8, _⟩ := (fnd_some ht.1.2.1).1 hf
            rcases hK e h8 with h | h <;> simp [h]
      have e3 : (lyE t (par9 p)).2.1 = 0 ∨ (lyE t (par9 p)).2.1 = 1 ∨ (lyE t (par9 p)).2.1 = 2 := by
        unfold lyE
        by_cases h6 : par9 p = [47]
        · rw [if_pos h6]; simp
        · rw [if_neg h6]
          cases hf : fnd t (par9 p) with
          | none => simp
          | some e =>
            obtain ⟨h8, _⟩ := (fnd_some ht.1.2.1).1 hf
            exact .inr (hK e h8)
      rw [e2]
      by_cases h9 : (lyE t p).2.1 = 0
      · have h10 : ¬ (fnd t p).isSome = true := fun h => e1.1 h h9
        rcases e3 with h | h | h <;> simp [h, h9, h10]
      · have h10 := e1.2 h9
        rcases e3 with h | h | h <;> simp [h, h9, h10]
  · rw [if_pos h1, if_pos h1]; rfl
theorem flV_st {t : List Ent} (ht : TR t) (p : List UInt8) : stK11 t p 1 = flV t p := by
  unfold stK11 hsV flV
  by_cases h1 : isP p
  · rw [if_neg (not_not_intro h1), if_neg (not_not_intro h1)]
    by_cases h2 : p = [47]
    · rw [if_pos h2, if_pos h2]; rfl
    · rw [if_neg h2, if_neg h2]
      cases hf : fnd t p with
      | none => rfl
      | some e =>
        obtain ⟨h8, _⟩ := (fnd_some ht.1.2.1).1 hf
        have := kind_of (ht.1.1 e h8)
        have := ht.2 e h8
        have : e.2.1 = 1 ∨ e.2.1 = 2 := by omega
        rcases this with h | h <;> simp [h, othV]
  · rw [if_pos h1, if_pos h1]; rfl
set_option maxRecDepth 10000 in
set_option maxHeartbeats 1000000 in
theorem other11 (x : Ent) (k : Int) (w : World) : Calls Tryz.prog 54 #[enV x, .int .i64 k] w fun e w' => ∃ er, e = .returned er ∧ Er w' (othV x.2.1 k) er ∧ Below w.heap.size w w' := by
  obtain ⟨W, hW⟩ : ∃ W, w.alloc (.cells #[.string x.1, .int .i64 x.2.1, .string x.2.2] 34) = W := ⟨_, rfl⟩
  obtain ⟨N, hN⟩ : ∃ N, w.heap.size = N := ⟨_, rfl⟩
  have HB := Lib.hid (show Below w.heap.size w W by rw [← hW]; exact (Below.refl _ _).alloc (Nat.le_refl _) _)
  have HR := Lib.hid (show EnAt W N x.1 x.2.1 x.2.2 by rw [← hW, ← hN]; exact enAt_new _ _ _ _)
  have c0 := HR.out.c0
  have c1 := HR.out.c1
  have c2 := HR.out.c2
  by_cases h1 : x.2.1 = k
  · have HV := Lib.hid (show othV x.2.1 k = 0 from if_pos h1)
    have g1 : (x.2.1 == k) = true := beq_iff_eq.2 h1
    clear h1
    go_enter Tryz.func54, Tryz.ntmps54
    go_wp2
    go_ret
    exact ⟨_, rfl, by rw [HV.out]; exact er_nil _, HB.out⟩
  · have g1 : (x.2.1 == k) = false := beq_eq_false_iff_ne.2 h1
    by_cases h2 : x.2.1 = 2
    · have HV := Lib.hid (show othV x.2.1 k = 5 by unfold othV; rw [if_neg h1, if_pos h2])
      have g2 : (x.2.1 == 2) = true := beq_iff_eq.2 h2
      clear h1 h2
      go_enter Tryz.func54, Tryz.ntmps54
      go_wp2
      go_ret
      exact ⟨_, rfl, by rw [HV.out]; exact er_no11 _ _ (by decide), HB.out⟩
    · have HV := Lib.hid (show othV x.2.1 k = 6 by unfold othV; rw [if_neg h1, if_neg h2])
      have g2 : (x.2.1 == 2) = false := beq_eq_false_iff_ne.2 h2
      clear h1 h2
      go_enter Tryz.func54, Tryz.ntmps54
      go_wp2
      go_ret
      exact ⟨_, rfl, by rw [HV.out]; exact er_no11 _ _ (by decide), HB.out⟩
theorem results_cell11 {fn : Func} {p : Tmp} {ty : TypeId} (h : fn.results = #[.cell p ty]) (tmps : Array Value) (P : Program) (w : World) :
    (results fn tmps).run P w = ((asAddr (tmps.getD p undef)).run P w).andThen fun a w₁ => (loadVar ty a).run P w₁ := by
  simp only [results, h]
  simp [Sem.run_bind, Result.andThen]
set_option maxRecDepth 10000 in
set_option maxHeartbeats 1000000 in
theorem lying11 (t : List Ent) (a : Option Addr) (cap : Nat) (p : ByteArray) (w : World) (h : Ents w a cap t) (hA : Asc t) (hl : t.length ≤ 1000) :
    Calls Tryz.prog 77 #[.slice a t.length cap, .string p] w fun e w' => e = .returned (enV (lyE t p.data.toList)) ∧ Below w.heap.size w w' := by
  obtain ⟨V, hV⟩ : ∃ V, w.alloc (.cells #[.string ⟨#[]⟩, .int .i64 0, .string ⟨#[]⟩] 34) = V := ⟨_, rfl⟩
  obtain ⟨O, hO⟩ : ∃ O, w.heap.size = O := ⟨_, rfl⟩
  have hb1 : Below w.heap.size w V := by rw [← hV]; exact (Below.refl _ _).alloc (Nat.le_refl _) _
  have HR := Lib.hid (show EnAt V O ⟨#[]⟩ 0 ⟨#[]⟩ by rw [← hV, ← hO]; exact enAt_new _ _ _ _)
  have HOW := Lib.hid (show w.heap.size ≤ O by omega)
  have HB := Lib.hid hb1
  have HE := Lib.hid (RowN.below h hb1)
  have HC := Lib.hid (place11 t a cap p V HE.out hA hl)
  have HPS := Lib.hid (fun x (hx : fnd t p.data.toList = some x) => plc_some hA hx)
  clear h hA hl hb1
  by_cases h1 : p.data.toList = [47]
  · have g1 : (p.toList == [47]) = true := by rw [Lib.toList_data, beq_iff_eq]; exact h1
    have HV := Lib.hid (show lyE t p.data.toList = (⟨#[47]⟩, 2, ⟨#[]⟩) from if_pos h1)
    have r0 := HR.out.c0
    have r1 := HR.out.c1
    have r2 := HR.out.c2
    have f0 := HR.out.f0
    have f1 := HR.out.f1
    have f2 := HR.out.f2
    clear h1
    go_enter Tryz.func77, Tryz.ntmps77
    go_wp2
    have hld := lv_en (HR.out.set ⟨#[47]⟩ 2 ⟨#[]⟩)
    refine bodyPost_ret (v := entV ⟨#[47]⟩ 2 ⟨#[]⟩) ?_ rfl ⟨by rw [HV.out], below_en3 HB.out HOW.out _ _ _⟩
    rw [results_cell11 rfl]
    simp [asAddr, Result.andThen, hld]
  · have g1 : (p.toList == [47]) = false := by rw [Lib.toList_data, beq_eq_false_iff_ne]; exact h1
    have HV := Lib.hid (show lyE t p.data.toList = (fnd t p.data.toList).getD (⟨#[]⟩, 0, ⟨#[]⟩) from if_neg h1)
    clear h1
    cases hf : fnd t p.data.toList with
    | none =>
      rw [hf] at HC HV
      rw [show (none : Option Ent).isSome = false from rfl] at HC
      clear hf
      go_enter Tryz.func77, Tryz.ntmps77
      go_wp2_with fail
      refine (HC.out).mono ?_
      rintro e w1 ⟨rfl, hb⟩
      have HB1 := Lib.hid (HB.out.trans (hb.mono HB.out.size))
      have HR1 := Lib.hid (HR.out.below hb)
      have r0 := HR1.out.c0
      have r1 := HR1.out.c1
      have r2 := HR1.out.c2
      have f0 := HR1.out.f0
      have f1 := HR1.out.f1
      have f2 := HR1.out.f2
      clear hb
      go_wp2
      have hld := lv_en (HR1.out.set ⟨#[]⟩ 0 ⟨#[]⟩)
      refine bodyPost_ret (v := entV ⟨#[]⟩ 0 ⟨#[]⟩) ?_ rfl ⟨by rw [HV.out]; rfl, below_en3 HB1.out HOW.out _ _ _⟩
      rw [results_cell11 rfl]
      simp [asAddr, Result.andThen, hld]
    | some x =>
      rw [hf] at HC HV
      obtain ⟨hk, hx, _⟩ := HPS.out x hf
      rw [show (some x).isSome = true from rfl] at HC
      obtain ⟨K, hK⟩ : ∃ K, plc t p.data.toList = K := ⟨_, rfl⟩
      simp only [hK] at hk hx
      rw [hK] at HC
      have hk' : (K : Int) < (t.length : Int) := by omega
      go_enter Tryz.func77, Tryz.ntmps77
      go_wp2_with fail
      refine (HC.out).mono ?_
      rintro e w1 ⟨rfl, hb⟩
      have HB1 := Lib.hid (HB.out.trans (hb.mono HB.out.size))
      have HR1 := Lib.hid (HR.out.below hb)
      obtain ⟨b, off, rfl, _, hc⟩ := Ents.at HE.out hb hk
      rw [hx] at hc
      have c0 := hc.c0
      have c1 := hc.c1
      have c2 := hc.c2
      have r0 := HR1.out.c0
      have r1 := HR1.out.c1
      have r2 := HR1.out.c2
      have f0 := HR1.out.f0
      have f1 := HR1.out.f1
      have f2 := HR1.out.f2
      clear hb hc hx hf hK HPS
      go_wp2
      have hld := lv_en (HR1.out.set x.1 x.2.1 x.2.2)
      refine bodyPost_ret (v := enV x) ?_ rfl ⟨by rw [HV.out]; rfl, below_en3 HB1.out HOW.out _ _ _⟩
      rw [results_cell11 rfl]
      simp [asAddr, Result.andThen, hld]
end Go.Proofs.YtlncdmdffpaojaaGreatDoor

namespace Go.Proofs.YtlncdmdffpaojaaGreatDoor
open Go.RowKit

theorem field_kind (E : Ent) (w : World) : (Instr.field 34 (enV E) 1).run Tryz.prog w = .ok (.int .i64 E.2.1) w := by kernel_rfl
attribute [local go_sem] field_kind in
/-- What made answers. -/
def mdV (t : List Ent) (x : Ent) : Int × List Ent := if plcV t (pl x) ≠ 0 then (plcV t (pl x), []) else (0, wth t x)
theorem mkV_md {t : List Ent} (hl : t.length ≤ 900) (p : ByteArray) (k : Int) : mkV t p k = mdV t (p, k, ⟨#[]⟩) := by
  unfold mkV mdV upTo
  have := wth_le t (p, k, ⟨#[]⟩)
  rw [if_neg (show ¬ 1024 < (wth t (p, k, ⟨#[]⟩)).length by omega)]
end Go.Proofs.YtlncdmdffpaojaaGreatDoor

namespace Go.Proofs.YtlncdmdffpaojaaGreatDoor
open Go.RowKit

def Read11 : Prop := ∀ t a cap p w, EtLaid w → Ents w a cap t → TreeL t → t.length ≤ 900 → p.size ≤ 100000 → Calls Tryz.prog 11 #[.slice a t.length cap, .string p] w fun e w' => ∃ er, e = .returned (.tuple #[.string (rdV t p.data.toList).2, er]) ∧ Er w' (rdV t p.data.toList).1 er ∧ Below w.heap.size w w'
end Go.Proofs.YtlncdmdffpaojaaGreatDoor

namespace Go.Proofs.YtlncdmdffpaojaaGreatDoor
open Go.RowKit

/-- No entry. -/
abbrev noE11 : Ent := (⟨#[]⟩, 0, ⟨#[]⟩)
/-- What found answers: the error, what lies there. -/
def foV (t : List Ent) (p : List UInt8) : Int × Ent := if ¬ isP p then (2, noE11) else if (lyE t p).2.1 = 0 then (3, noE11) else (0, lyE t p)
/-- What sought answers. -/
def soV (t : List Ent) (p : List UInt8) (k : Int) : Int × Ent := if (foV t p).1 ≠ 0 then ((foV t p).1, noE11) else if othV (foV t p).2.2.1 k ≠ 0 then (othV (foV t p).2.2.1 k, noE11) else (0, (foV t p).2)
theorem rdV_so {t : List Ent} (ht : TR t) (p : List UInt8) : rdV t p = ((soV t p 1).1, (soV t p 1).2.2.2) := by
  unfold rdV soV foV kdV
  by_cases h1 : isP p
  · rw [if_neg (not_not_intro h1), if_neg (not_not_intro h1)]
    unfold lyE datV
    by_cases h2 : p = [47]
    · simp [h2, othV]
    · rw [if_neg h2, if_neg h2]
      cases hf : fnd t p with
      | none => simp
      | some e =>
        obtain ⟨h8, _⟩ := (fnd_some ht.1.2.1).1 hf
        have := kind_of (ht.1.1 e h8)
        have := ht.2 e h8
        have : e.2.1 = 1 ∨ e.2.1 = 2 := by omega
        rcases this with h | h <;> simp [h, othV]
  · simp [h1]
attribute [local go_sem] field_kind
attribute [local go_sem ↓] old_ldi old_lds
attribute [local go_sem] oldC_forall isC1_ptr isS1_ptr c1V_ptr
theorem enSet_other {w : World} {b c : Nat} (h : ¬ c = b) (p : ByteArray) (k : Int) (d : ByteArray) : (enSet w b p k d).heap[c]? = w.heap[c]? :=
  (Below.heap_setCell _ _ _ _ h).trans ((Below.heap_setCell _ _ _ _ h).trans (Below.heap_setCell _ _ _ _ h))
theorem chain_set11 /- of a Fault, 94 -/ {w : World} {n : Int} {b : Nat} {p d : ByteArray} {k : Int} (hO : EnAt w b p k d) (p' : ByteArray) (k' : Int) (d' : ByteArray) : ∀ {l : List (ByteArray × ByteArray)} {v : Value}, Chain w n l v → Chain (enSet w b p' k' d') n l v
  | [], _, h => h
  | x :: r, _, ⟨c, v', h1, h2, h3, h4, h5, h6⟩ => by
    have hne : ¬ c = b := fun e => by
      subst e
      have := hO.c1
      rw [Nat.zero_add, this] at h4
      cases h4
    have hb := enSet_other (w := w) hne p' k' d'
    have hz : c < (enSet w b p' k' d').heap.size := by
      have : (enSet w b p' k' d').heap[c]? = some w.heap[c] := hb.trans (Array.getElem?_eq_getElem h2)
      exact (Array.getElem?_eq_some_iff.1 this).1
    exact ⟨c, v', h1, hz, (World.cell?_of_block hb).trans h3, (World.cell?_of_block hb).trans h4, (World.cell?_of_block hb).trans h5, chain_set11 hO p' k' d' (l := r) h6⟩
theorem er_set11 {w : World} {n : Int} {v : Value} {b : Nat} {p d : ByteArray} {k : Int} (h : Er w n v) (hO : EnAt w b p k d) (p' : ByteArray) (k' : Int) (d' : ByteArray) : Er (enSet w b p' k' d') n v := h.imp_right fun ⟨h0, l, hl⟩ => ⟨h0, l, chain_set11 hO p' k' d' hl⟩
set_option maxRecDepth 10000 in
set_option maxHeartbeats 4000000 in
theorem found11 (t : List Ent) (a : Option Addr) (cap : Nat) (p : ByteArray) (w : World) (h : Ents w a cap t) (ht : TreeL t) (hl : t.length ≤ 900) (hp : p.size ≤ 100000) :
    Calls Tryz.prog 53 #[.slice a t.length cap, .string p] w fun e w' => ∃ er, e = .returned (.tuple #[enV (foV t p.data.toList).2, er]) ∧ Er w' (foV t p.data.toList).1 er ∧ Below w.heap.size w w' := by
  obtain ⟨V, hV⟩ : ∃ V, w.alloc (.cells #[.string ⟨#[]⟩, .int .i64 0, .string ⟨#[]⟩] 34) = V := ⟨_, rfl⟩
  obtain ⟨O, hO⟩ : ∃ O, w.heap.size = O := ⟨_, rfl⟩
  have hb1 : Below w.heap.size w V := by rw [← hV]; exact (Below.refl _ _).alloc (Nat.le_refl _) _
  have HR := Lib.hid (show EnAt V O ⟨#[]⟩ 0 ⟨#[]⟩ by rw [← hV, ← hO]; exact enAt_new _ _ _ _)
  have HOW := Lib.hid (show w.heap.size ≤ O by omega)
  have HB := Lib.hid hb1
  have HE := Lib.hid (RowN.below h hb1)
  have HC := Lib.hid (tree10 t a cap V HE.out (sm_tree ht (by omega)))
  rw [decide_eq_true ht] at HC
  have HD := Lib.hid (fun W => deep_any p (by omega) W)
  have HL : Hid (∀ W, Below w.heap.size w W → _) := fun W hW => lying11 t a cap p W (RowN.below h hW) ht.2.1.2.1 (by omega)
  have HF : Hid (foV t p.data.toList = if ¬ isP p.data.toList then (2, noE11) else if (lyE t p.data.toList).2.1 = 0 then (3, noE11) else (0, lyE t p.data.toList)) := rfl
  obtain ⟨r, hr⟩ : ∃ r, foV t p.data.toList = r := ⟨_, rfl⟩
  rw [hr] at HF ⊢
  obtain ⟨d, hd⟩ : ∃ d, dp p.data.toList = d := ⟨_, rfl⟩
  have HDP := Lib.hid (dp_lt (p := p.data.toList))
  rw [hd] at HD HDP
  obtain ⟨E, hE⟩ : ∃ E, lyE t p.data.toList = E := ⟨_, rfl⟩
  rw [hE] at HL HF
  clear h ht hl hp hr hd hE hb1
  go_enter Tryz.func53, Tryz.ntmps53
  go_wp2_with fail
  refine (HC.out).mono ?_
  rintro e w1 ⟨rfl, hb⟩
  have HB1 := Lib.hid (HB.out.trans (hb.mono HB.out.size))
  have HR1 := Lib.hid (HR.out.below hb)
  clear hb
  go_wp2_with fail
  refine (HD.out _).mono ?_
  rintro e w2 ⟨rfl, hb⟩
  have HB2 := Lib.hid (HB1.out.trans (hb.mono HB1.out.size))
  have HR2 := Lib.hid (HR1.out.below hb)
  clear hb
  by_cases h1 : d < 0
  · have HV := Lib.hid (show r = (2, noE11) by rw [HF.out, if_pos (HDP.out.1 h1)])
    have r0 := HR2.out.c0
    have r1 := HR2.out.c1
    have r2 := HR2.out.c2
    have f0 := HR2.out.f0
    have f1 := HR2.out.f1
    have f2 := HR2.out.f2
    go_wp2
    have hld := lv_en (HR2.out.set ⟨#[]⟩ 0 ⟨#[]⟩)
    refine bodyPost_ret (v := .tuple #[entV ⟨#[]⟩ 0 ⟨#[]⟩, .iface 51 (.int .i64 2)]) ?_ rfl ⟨.iface 51 (.int .i64 2), by rw [HV.out], by rw [HV.out]; exact er_no11 _ _ (by decide), below_en3 HB2.out HOW.out _ _ _⟩
    rw [results_cell_tmp rfl]
    simp [asAddr, Result.andThen, hld]
  · have HF1 := Lib.hid (show r = if E.2.1 = 0 then (3, noE11) else (0, E) by rw [HF.out, if_neg (fun h => h1 (HDP.out.2 h))])
    have HL2 := Lib.hid (HL.out w2 HB2.out)
    clear HF HDP HL
    go_wp2_with fail
    refine (HL2.out).mono ?_
    rintro e w3 ⟨rfl, hb⟩
    have HB3 := Lib.hid (HB2.out.trans (hb.mono HB2.out.size))
    have HR3 := Lib.hid (HR2.out.below hb)
    clear hb
    obtain ⟨V3, hV3⟩ : ∃ V, w3.alloc (.cells #[.string E.1, .int .i64 E.2.1, .string E.2.2] 34) = V := ⟨_, rfl⟩
    obtain ⟨M3, hM3⟩ : ∃ M, w3.heap.size = M := ⟨_, rfl⟩
    have hbV3 : Below w3.heap.size w3 V3 := by rw [← hV3]; exact (Below.refl _ _).alloc (Nat.le_refl _) _
    replace HB3 := Lib.hid (HB3.out.trans (hbV3.mono HB3.out.size))
    replace HR3 := Lib.hid (HR3.out.below hbV3)
    have HQ3 := Lib.hid (show EnAt V3 M3 E.1 E.2.1 E.2.2 by rw [← hV3, ← hM3]; exact enAt_new _ _ _ _)
    have q0 := HQ3.out.c0
    have q1 := HQ3.out.c1
    have q2 := HQ3.out.c2
    clear hbV3
    have r0 := HR3.out.c0
    have r1 := HR3.out.c1
    have r2 := HR3.out.c2
    have f0 := HR3.out.f0
    have f1 := HR3.out.f1
    have f2 := HR3.out.f2
    by_cases h2 : E.2.1 = 0
    · have HV := Lib.hid (show r = (3, noE11) by rw [HF1.out, if_pos h2])
      have g2 : (E.2.1 == 0) = true := beq_iff_eq.2 h2
      clear h2
      go_wp2
      have hld := lv_en (HR3.out.set ⟨#[]⟩ 0 ⟨#[]⟩)
      refine bodyPost_ret (v := .tuple #[entV ⟨#[]⟩ 0 ⟨#[]⟩, .iface 51 (.int .i64 3)]) ?_ rfl ⟨.iface 51 (.int .i64 3), by rw [HV.out], by rw [HV.out]; exact er_no11 _ _ (by decide), below_en3 HB3.out HOW.out _ _ _⟩
      rw [results_cell_tmp rfl]
      simp [asAddr, Result.andThen, hld]
    · have HV := Lib.hid (show r = (0, E) by rw [HF1.out, if_neg h2])
      have g2 : (E.2.1 == 0) = false := beq_eq_false_iff_ne.2 h2
      clear h2
      go_wp2
      have hld := lv_en (HR3.out.set E.1 E.2.1 E.2.2)
      refine bodyPost_ret (v := .tuple #[enV E, .nilIface]) ?_ rfl ⟨.nilIface, by rw [HV.out], by rw [HV.out]; exact er_nil _, below_en3 HB3.out HOW.out _ _ _⟩
      rw [results_cell_tmp rfl]
      simp [asAddr, Result.andThen, hld]
set_option maxRecDepth 10000 in
set_option maxHeartbeats 4000000 in
theorem sought11 (t : List Ent) (a : Option Addr) (cap : Nat) (p : ByteArray) (k : Int) (w : World) (h : Ents w a cap t) (ht : TreeL t) (hl : t.length ≤ 900) (hp : p.size ≤ 100000) :
    Calls Tryz.prog 27 #[.slice a t.length cap, .string p, .int .i64 k] w fun e w' => ∃ er, e = .returned (.tuple #[enV (soV t p.data.toList k).2, er]) ∧ Er w' (soV t p.data.toList k).1 er ∧ Below w.heap.size w w' := by
  obtain ⟨V, hV⟩ : ∃ V, w.alloc (.cells #[.string ⟨#[]⟩, .int .i64 0, .string ⟨#[]⟩] 34) = V := ⟨_, rfl⟩
  obtain ⟨O, hO⟩ : ∃ O, w.heap.size = O := ⟨_, rfl⟩
  have hb1 : Below w.heap.size w V := by rw [← hV]; exact (Below.refl _ _).alloc (Nat.le_refl _) _
  have HR := Lib.hid (show EnAt V O ⟨#[]⟩ 0 ⟨#[]⟩ by rw [← hV, ← hO]; exact enAt_new _ _ _ _)
  have HOW := Lib.hid (show w.heap.size ≤ O by omega)
  have HB := Lib.hid hb1
  have HC := Lib.hid (found11 t a cap p V (RowN.below h hb1) ht hl hp)
  have HS : Hid (soV t p.data.toList k = if (foV t p.data.toList).1 ≠ 0 then ((foV t p.data.toList).1, noE11) else if othV (foV t p.data.toList).2.2.1 k ≠ 0 then (othV (foV t p.data.toList).2.2.1 k, noE11) else (0, (foV t p.data.toList).2)) := rfl
  obtain ⟨f, hf⟩ : ∃ f, foV t p.data.toList = f := ⟨_, rfl⟩
  obtain ⟨r, hr⟩ : ∃ r, soV t p.data.toList k = r := ⟨_, rfl⟩
  rw [hf] at HC HS
  rw [hr] at HS ⊢
  obtain ⟨n, E⟩ := f
  have HO := Lib.hid (fun W => other11 E k W)
  clear h ht hl hp hr hf hb1
  go_enter Tryz.func27, Tryz.ntmps27
  go_wp2_with fail
  refine (HC.out).mono ?_
  rintro e w1 ⟨er, rfl, her, hb⟩
  have HB1 := Lib.hid (HB.out.trans (hb.mono HB.out.size))
  have HR1 := Lib.hid (HR.out.below hb)
  obtain ⟨V1, hV1⟩ : ∃ V, w1.alloc (.cells #[.string E.1, .int .i64 E.2.1, .string E.2.2] 34) = V := ⟨_, rfl⟩
  obtain ⟨M1, hM1⟩ : ∃ M, w1.heap.size = M := ⟨_, rfl⟩
  have hbV1 : Below w1.heap.size w1 V1 := by rw [← hV1]; exact (Below.refl _ _).alloc (Nat.le_refl _) _
  replace HB1 := Lib.hid (HB1.out.trans (hbV1.mono HB1.out.size))
  replace HR1 := Lib.hid (HR1.out.below hbV1)
  have HQ1 := Lib.hid (show EnAt V1 M1 E.1 E.2.1 E.2.2 by rw [← hV1, ← hM1]; exact enAt_new _ _ _ _)
  have q0 := HQ1.out.c0
  have q1 := HQ1.out.c1
  have q2 := HQ1.out.c2
  clear hbV1
  have HBV := Lib.hid (show Below w1.heap.size w1 V1 by rw [← hV1]; exact (Below.refl _ _).alloc (Nat.le_refl _) _)
  clear hb
  rcases her with ⟨h0, rfl⟩ | ⟨h0, herr⟩
  · have HS1 := Lib.hid (show r = if othV E.2.1 k ≠ 0 then (othV E.2.1 k, noE11) else (0, E) by rw [HS.out, if_neg (not_not_intro h0)])
    clear h0 HS
    go_wp2_with fail
    refine (HO.out _).mono ?_
    rintro e w2 ⟨er, rfl, her, hb⟩
    have HB2 := Lib.hid (HB1.out.trans (hb.mono HB1.out.size))
    have HR2 := Lib.hid (HR1.out.below hb)
    have HQ2 := Lib.hid (HQ1.out.below hb)
    clear hb q0 q1 q2
    have q0 := HQ2.out.c0
    have q1 := HQ2.out.c1
    have q2 := HQ2.out.c2
    have r0 := HR2.out.c0
    have r1 := HR2.out.c1
    have r2 := HR2.out.c2
    have f0 := HR2.out.f0
    have f1 := HR2.out.f1
    have f2 := HR2.out.f2
    rcases her with ⟨h0, rfl⟩ | ⟨h0, herr⟩
    · have HV := Lib.hid (show r = (0, E) by rw [HS1.out, if_neg (not_not_intro h0)])
      clear h0
      go_wp2
      have hld := lv_en (HR2.out.set E.1 E.2.1 E.2.2)
      refine bodyPost_ret (v := .tuple #[enV E, .nilIface]) ?_ rfl ⟨.nilIface, by rw [HV.out], by rw [HV.out]; exact er_nil _, below_en3 HB2.out HOW.out _ _ _⟩
      rw [results_cell_tmp rfl]
      simp [asAddr, Result.andThen, hld]
    · have HV := Lib.hid (show r = (othV E.2.1 k, noE11) by rw [HS1.out, if_pos h0])
      obtain ⟨u, y, rfl⟩ := herr.iface
      have HER := Lib.hid (show Er w2 (othV E.2.1 k) (.iface u y) from .inr ⟨h0, herr⟩)
      have HLT := Lib.hid (HR2.out.lt)
      clear herr h0
      go_wp2
      have hld := lv_en (HR2.out.set ⟨#[]⟩ 0 ⟨#[]⟩)
      refine bodyPost_ret (v := .tuple #[entV ⟨#[]⟩ 0 ⟨#[]⟩, .iface u y]) ?_ rfl ⟨.iface u y, by rw [HV.out], by rw [HV.out]; exact er_set11 HER.out HR2.out _ _ _, below_en3 HB2.out HOW.out _ _ _⟩
      rw [results_cell_tmp rfl]
      simp [asAddr, Result.andThen, hld]
  · have HV := Lib.hid (show r = (n, noE11) by rw [HS.out, if_pos h0])
    obtain ⟨u, y, rfl⟩ := herr.iface
    have HER := Lib.hid ((show Er w1 n (.iface u y) from .inr ⟨h0, herr⟩).below HBV.out)
    clear herr h0
    have r0 := HR1.out.c0
    have r1 := HR1.out.c1
    have r2 := HR1.out.c2
    have f0 := HR1.out.f0
    have f1 := HR1.out.f1
    have f2 := HR1.out.f2
    go_wp2
    have hld := lv_en (HR1.out.set ⟨#[]⟩ 0 ⟨#[]⟩)
    refine bodyPost_ret (v := .tuple #[entV ⟨#[]⟩ 0 ⟨#[]⟩, .iface u y]) ?_ rfl ⟨.iface u y, by rw [HV.out], by rw [HV.out]; exact er_set11 HER.out HR1.out _ _ _, below_en3 HB1.out HOW.out _ _ _⟩
    rw [results_cell_tmp rfl]
    simp [asAddr, Result.andThen, hld]
set_option maxRecDepth 10000 in
set_option maxHeartbeats 1000000 in
theorem read11 : Read11 := fun t a cap p w _ h ht hl hp => by
  rw [rdV_so ht.2]
  have HC := Lib.hid (sought11 t a cap p 1 w h ht hl hp)
  have HA := Lib.hid (fun o n v W h => at_er o p n v W h)
  obtain ⟨f, hf⟩ : ∃ f, soV t p.data.toList 1 = f := ⟨_, rfl⟩
  rw [hf] at HC ⊢
  obtain ⟨n, E⟩ := f
  clear h ht hl hp hf
  go_enter Tryz.func11, Tryz.ntmps11
  go_wp2_with fail
  refine (HC.out).mono ?_
  rintro e w1 ⟨er, rfl, her, hb⟩
  have HB1 := Lib.hid hb
  obtain ⟨V1, hV1⟩ : ∃ V, w1.alloc (.cells #[.string E.1, .int .i64 E.2.1, .string E.2.2] 34) = V := ⟨_, rfl⟩
  obtain ⟨M1, hM1⟩ : ∃ M, w1.heap.size = M := ⟨_, rfl⟩
  have hbV1 : Below w1.heap.size w1 V1 := by rw [← hV1]; exact (Below.refl _ _).alloc (Nat.le_refl _) _
  replace HB1 := Lib.hid (HB1.out.trans (hbV1.mono HB1.out.size))
  have HQ1 := Lib.hid (show EnAt V1 M1 E.1 E.2.1 E.2.2 by rw [← hV1, ← hM1]; exact enAt_new _ _ _ _)
  have HKS : Hid (∀ X, Below V1.heap.size V1 X → X.cell? ⟨M1, 2, none⟩ = some (.string E.2.2)) := fun X hX => (HQ1.out.below hX).c2
  have HA1 : Hid (∀ o, Calls Tryz.prog 26 #[.string o, .string p, er] V1.drew fun e w' => ∃ v', e = .returned v' ∧ Er w' n v' ∧ Below V1.heap.size V1 w') := fun o => by
    refine (HA.out o n er V1.drew ((her.below hbV1).below ((Below.refl _ _).drew))).mono ?_
    rintro e w' ⟨v', rfl, h1, hb⟩
    exact ⟨v', rfl, h1, ((Below.refl V1.heap.size V1).drew).trans hb⟩
  clear hb her hbV1 HC HA
  go_wp2_with fail
  clear hV1 hM1
  go_region_held3 (fun X => X.cell? ⟨M1, 2, none⟩ = some (.string E.2.2))
    ((with_reducible refine HKS.out _ ?_; (first | with_reducible assumption | with_reducible exact Below.refl _ _ | with_reducible exact (Below.refl _ _).drew)))
    (first
    | (go_at_call 26; with_reducible refine (HA1.out _).mono ?_; rintro e w2 ⟨er2, rfl, her, hB2⟩))
  all_goals
    have HB2 := Lib.hid (HB1.out.trans (hB2.mono HB1.out.size))
    have HER2 := Lib.hid her
    clear hB2 her
    go_wp2
    go_ret2
    exact ⟨er2, rfl, HER2.out, HB2.out⟩
end Go.Proofs.YtlncdmdffpaojaaGreatDoor
