/-
  The contract of package code's Num: a number's bytes; what was in memory stays. Condition: the number is one from 0 to 2^62.
  The contract of the document's own Num (package shaleref04): a number's digits. Condition: the number is at most 2^62.
  Contracts of the document's own answers of layer 8 (package shaleref08): Right, Lay. Conditions: as each says.
  The contract of the document's own Lay of an entry (package shaleref08): its bytes. Condition: the kind is one of 0 to 127, the texts are short.
  Entries as bytes, told by lists: one's bytes begin no other one's; what a right entry's parts are. No condition.
  Layers as lists of entries: the order of paths, what a right layer is, one entry more at its end, an entry put and dropped, what lies under a path. No condition.
  Loads of one cell (an int, a uint32, a string) in a region that leaves what was there as it was (OldQ): rules for the walk. No condition.
  An entry in memory (api.Entry, three cells): its loads and stores. No condition.
  A slice of entries (api.Entry) in memory, and one that a call made itself, told by a list: an element's cells, append. No condition but that it fits.
-/
import Derived.Test.YtflomllfehoedaaDoorProg
import Derived.Test.YtflomllfehoedaaDoorS4Math
import Derived.WalkKit
import Derived.Lib.Hide
import Derived.Deep.LoopGhost
import Derived.Laws.AppendOwn
import Derived.RangeFuncBox
import Derived.Maps.AppendAt
import Derived.Laws.IdiomStrings
import Derived.Test.YtflomllfehoedaaDoorConv
import Derived.IntWalk
import Derived.Lib.Strings
import Derived.Test.YtflomllfehoedaaDoorS3RefS
import Derived.Deep.RegionHeld3
import Derived.Deep.RegionHeld
import Derived.Deep.DrawnRows
import Derived.Test.YtflomllfehoedaaDoorOldQ
import Derived.Test.YtflomllfehoedaaDoorRowN
import Derived.Test.YtflomllfehoedaaDoorAppendAny
namespace Go.Proofs.YtflomllfehoedaaDoor
open Go.RowKit

theorem infoByte : (Tryd.prog.info? 5).map (fun i => (i.zero, i.size, i.bytes)) = some (some (.int .u8 0), 1, 1) := by kernel_rfl

/-- Bytes as cells. -/
def cells8 (l : List UInt8) : List Value := l.map fun c => .int .u8 (c.toNat : Int)

theorem conv_own {w : World} {base : Nat} {l : List UInt8} {g cap : Nat} (h : w.ownsRow base 5 1 (.slice (some ⟨g, 0, none⟩) l.length cap) l.length (cells8 l)) :
    (convert 34 9 (.slice (some ⟨g, 0, none⟩) l.length cap)).run Tryd.prog w = .ok (.string ⟨l.toArray⟩) w := by
  refine run_convert_bytes_back w 34 9 5 ⟨g, 0, none⟩ cap l Tryd.underlying34 Tryd.underlying5 Tryd.underlying9 (fun j hj => ?_)
  obtain ⟨_, ⟨h1, _⟩ | ⟨g', cap', cur, h1, _, h2, _, _, _, h3⟩⟩ := h
  · cases h1
  · obtain ⟨rfl, rfl⟩ : g = g' ∧ cap = cap' := by simpa using h1
    rw [Addr.add_lit, Nat.zero_add]
    have h4 : cur[j]? = some (.int .u8 (l[j].toNat : Int)) := by
      have := congrArg (·[j]?) h3
      simp only [List.getElem?_take, Nat.mul_one, if_pos hj] at this
      rw [Array.getElem?_toList] at this
      rw [this, cells8, List.getElem?_map, List.getElem?_eq_getElem hj]
      rfl
    simp [World.cell?, h2, h4]

theorem own_block8 {w : World} {B : Nat} {e : TypeId} {v : Value} {n : Nat} {xs : List Value} (h : w.ownsRow B e 1 v n xs) : ∀ k, v.ownBlock = some k → B ≤ k := fun k hk => by
  obtain ⟨_, ⟨rfl, _⟩ | ⟨g, cap, cur, rfl, hg, _⟩⟩ := h
  · cases hk
  · simp [Value.ownBlock] at hk
    omega

set_option maxRecDepth 10000 in
set_option maxHeartbeats 2000000 in
theorem num_any (n : Nat) (hn : n ≤ 4611686018427387904) (w : World) :
    Calls Tryd.prog 27 #[.int .i64 (n : Int)] w fun e w' => e = .returned (.string (numB n)) ∧ Below w.heap.size w w' := by
  obtain ⟨i0, hi, hz0, hz1, hz2⟩ := info_parts infoByte
  have HI := Lib.hid hi
  have HZ0 := Lib.hid hz0
  have HZ1 := Lib.hid hz1
  have HZ2 := Lib.hid hz2
  clear hi hz0 hz1 hz2
  have HN := Lib.hid hn
  have h0 : ¬ (n : Int) < 0 := by omega
  have h1 : ¬ (4611686018427387904 : Int) < (n : Int) := by omega
  clear hn
  go_enter Tryd.func27, Tryd.ntmps27
  go_wp2
  go_loopg [0, 3] n (fun g a v wr => ∃ (l : List UInt8) (ao : Option Addr) (cap : Nat), a = .int .i64 (g : Int) ∧ v = .slice ao l.length cap ∧ Hid (g ≤ n ∧ l ++ dg g = dg n ∧ wr.ownsRow w.heap.size 5 1 (.slice ao l.length cap) l.length (cells8 l) ∧ Below w.heap.size w wr))
  case atStart => exact ⟨[], none, 0, rfl, rfl, Nat.le_refl _, rfl, World.ownsRow_nil _ _ _ _, Below.refl _ _⟩
  case round =>
    obtain ⟨l, ao, cap, rfl, rfl, HR⟩ := hrel
    have hle : gk ≤ 4611686018427387904 := Nat.le_trans HR.out.1 HN.out
    have hll : l.length ≤ 9 := by
      have h2 := congrArg List.length HR.out.2.1
      have := dg_nine HN.out
      simp at h2
      omega
    clear h0 h1
    by_cases hlt : gk < 128
    · have hlt' : ¬ (128 : Int) ≤ (gk : Int) := by omega
      have HV := Lib.hid (show (gk : Int) = ((UInt8.ofNat gk).toNat : Int) by rw [ofNat_toNat (by omega)])
      go_wp2_with (at_builtin; refine wpList_append_own _ rfl _ _ 34 rfl w.heap.size 5 i0 (.int .u8 0) 1 1 Tryd.underlying34 HI.out HZ0.out HZ1.out HZ2.out rfl (by decide) _ _ _ rfl (HR.out.2.2.1.alloc _) ⟨wr.heap.size, 0, none⟩ 1 1 [.int .u8 (gk : Int)] rfl rfl (cell_one_new _ _ _) ?c2 ?c3 ?c4 ?c5 ?_)
      case c2 => first | rfl | (intro u hu; simp at hu; subst hu; rfl)
      case c3 => unfold maxLen; omega
      case c4 => omega
      case c5 => have := HR.out.2.2.2.size; simp; omega
      intro v' w3 hown' hgrow _
      obtain ⟨g', cap', rfl⟩ := ownsRow_succ hown'
      have hown2 : w3.ownsRow w.heap.size 5 1 (.slice (some ⟨g', 0, none⟩) (l ++ [UInt8.ofNat gk]).length cap') (l ++ [UInt8.ofNat gk]).length (cells8 (l ++ [UInt8.ofNat gk])) := by
        have e : cells8 (l ++ [UInt8.ofNat gk]) = cells8 l ++ [.int .u8 (gk : Int)] := by
          unfold cells8
          rw [List.map_append]
          congr 1
          exact congrArg (fun x => [Value.int .u8 x]) HV.out.symm
        rw [e, List.length_append]
        exact hown'
      have hc := conv_own hown2
      have hlen : (l ++ [UInt8.ofNat gk]).length = l.length + 1 := by simp
      rw [hlen] at hc
      have HB := Lib.hid ((HR.out.2.2.2.alloc HR.out.2.2.2.size _).grown hgrow (by have := HR.out.2.2.2.size; simp; omega) (own_block8 HR.out.2.2.1))
      have HE := Lib.hid (show l ++ [UInt8.ofNat gk] = dg n by rw [← dg_last hlt]; exact HR.out.2.1)
      clear hown2 hown' hgrow hlen
      go_wp2
      go_ret
      exact ⟨by rw [HE.out]; rfl, HB.out⟩
    · have hlt' : (128 : Int) ≤ (gk : Int) := by omega
      have HV := Lib.hid (show (gk : Int) % 128 + 128 = ((UInt8.ofNat (gk % 128 + 128)).toNat : Int) by rw [ofNat_toNat (by omega)]; omega)
      go_wp2_with (at_builtin; refine wpList_append_own _ rfl _ _ 34 rfl w.heap.size 5 i0 (.int .u8 0) 1 1 Tryd.underlying34 HI.out HZ0.out HZ1.out HZ2.out rfl (by decide) _ _ _ rfl (HR.out.2.2.1.alloc _) ⟨wr.heap.size, 0, none⟩ 1 1 [.int .u8 ((gk : Int) % 128 + 128)] rfl rfl (cell_one_new _ _ _) ?c2 ?c3 ?c4 ?c5 ?_)
      case c2 => first | rfl | (intro u hu; simp at hu; subst hu; rfl)
      case c3 => unfold maxLen; omega
      case c4 => omega
      case c5 => have := HR.out.2.2.2.size; simp; omega
      intro v' w3 hown' hgrow _
      obtain ⟨g', cap', rfl⟩ := ownsRow_succ hown'
      have hown2 : w3.ownsRow w.heap.size 5 1 (.slice (some ⟨g', 0, none⟩) (l ++ [UInt8.ofNat (gk % 128 + 128)]).length cap') (l ++ [UInt8.ofNat (gk % 128 + 128)]).length (cells8 (l ++ [UInt8.ofNat (gk % 128 + 128)])) := by
        have e : cells8 (l ++ [UInt8.ofNat (gk % 128 + 128)]) = cells8 l ++ [.int .u8 ((gk : Int) % 128 + 128)] := by
          unfold cells8
          rw [List.map_append]
          congr 1
          exact congrArg (fun x => [Value.int .u8 x]) HV.out.symm
        rw [e, List.length_append]
        exact hown'
      have HO := Lib.hid hown2
      have HB := Lib.hid ((HR.out.2.2.2.alloc HR.out.2.2.2.size _).grown hgrow (by have := HR.out.2.2.2.size; simp; omega) (own_block8 HR.out.2.2.1))
      have HE := Lib.hid (show (l ++ [UInt8.ofNat (gk % 128 + 128)]) ++ dg (gk / 128) = dg n by rw [List.append_assoc, List.singleton_append, ← dg_more hlt]; exact HR.out.2.1)
      clear hown2 hown' hgrow
      go_wp2
      go_roundg (gk / 128)
      case measure => omega
      case rel => exact ⟨l ++ [UInt8.ofNat (gk % 128 + 128)], some ⟨g', 0, none⟩, cap', by simp, by simp, by have := HR.out.1; omega, HE.out, HO.out, HB.out⟩
end Go.Proofs.YtflomllfehoedaaDoor

namespace Go.Proofs.YtflomllfehoedaaDoor
open Go.RowKit

theorem strOf_one (c : Nat) : (strOfNums [(c : Int)]).data.toList = [UInt8.ofNat c] := by
  simp [strOfNums]
set_option maxRecDepth 10000 in
set_option maxHeartbeats 2000000 in
theorem rnum_any (n : Nat) (hn : n ≤ 4611686018427387904) (w : World) :
    Calls Tryd.prog 44 #[.int .i64 (n : Int)] w fun e w' => e = .returned (.string (numB n)) ∧ Below w.heap.size w w' := by
  have c := conv1
  have HN9 := Lib.hid (dg_nine hn)
  go_enter Tryd.func44, Tryd.ntmps44
  go_wp2
  go_loopg [0, 3] n (fun g a t wr => ∃ (m : Nat) (s : ByteArray), a = .int .i64 (m : Int) ∧ t = .string s ∧ m ≤ 4611686018427387904 ∧ Hid (m = g ∧ s.data.toList ++ dg m = dg n ∧ Below w.heap.size w wr))
  case atStart => exact ⟨n, ⟨#[]⟩, rfl, rfl, hn, rfl, rfl, Below.refl _ _⟩
  case round =>
    obtain ⟨m, s, rfl, rfl, hm, HR⟩ := hrel
    have hs : s.size ≤ 9 := by
      have h3 := congrArg List.length HR.out.2.1
      have h4 := HN9.out
      rw [List.length_append, ← Lib.size_eq] at h3
      omega
    by_cases hlt : m < 128
    · have hlt' : ¬ (127 : Int) < (m : Int) := by omega
      have hw : IntKind.u8.wrap (m : Int) = (m : Int) := by rw [IntKind.wrap_u8]; omega
      have hs1 : (strOfNums [(m : Int)]).size = 1 := by rw [strOfNums_size]; rfl
      have hsum : ¬ 9223372036854775807 < s.size + 1 := by omega
      have HE := Lib.hid (show s ++ strOfNums [(m : Int)] = numB n by
        apply ByteArray.ext
        apply Array.ext'
        rw [ByteArray.data_append, Array.toList_append, strOf_one, numB_list, ← HR.out.2.1, dg_last hlt])
      go_wp2
      go_ret
      exact ⟨by rw [← HE.out]; rfl, HR.out.2.2.alloc HR.out.2.2.size _⟩
    · have hlt' : (127 : Int) < (m : Int) := by omega
      obtain ⟨d, hd⟩ : ∃ d, m % 128 + 128 = d := ⟨_, rfl⟩
      have hd2 : d < 256 := by omega
      obtain ⟨q, hq⟩ : ∃ q, m / 128 = q := ⟨_, rfl⟩
      have hw1 : IntKind.i64.wrap ((m : Int) % 128 + 128) = (d : Int) := by
        rw [show (m : Int) % 128 + 128 = (d : Int) by omega]
        exact IntWalk.i64_in _ (by omega)
      have hw : IntKind.u8.wrap (d : Int) = (d : Int) := by rw [IntKind.wrap_u8]; omega
      have hs1 : (strOfNums [(d : Int)]).size = 1 := by rw [strOfNums_size]; rfl
      have hsum : ¬ 9223372036854775807 < s.size + 1 := by omega
      have hqq : (m : Int) / 128 = (q : Int) := by omega
      have HE := Lib.hid (show (s ++ strOfNums [(d : Int)]).data.toList ++ dg q = dg n by
        rw [ByteArray.data_append, Array.toList_append, strOf_one, ← HR.out.2.1, dg_more hlt, hd, hq, List.append_assoc]
        rfl)
      have HQ := Lib.hid (show q < m ∧ q ≤ 4611686018427387904 by omega)
      clear hd hq
      go_wp2
      go_roundg q
      case measure => have := HR.out.1; have := HQ.out.1; omega
      case rel => exact ⟨q, _, by first | rfl | simp [hqq], rfl, HQ.out.2, rfl, HE.out, HR.out.2.2.alloc HR.out.2.2.size _⟩
end Go.Proofs.YtflomllfehoedaaDoor

namespace Go.Proofs.YtflomllfehoedaaDoor
open Go.RowKit

/-- An entry as a value. -/
abbrev entV (p : ByteArray) (k : Int) (d : ByteArray) : Value := .agg #[.string p, .int .i64 k, .string d]
/-- Is an entry right? -/
def rightE (p : ByteArray) (k : Int) (d : ByteArray) : Bool := decide (1 ≤ dp p.data.toList) && (((k == 1) && decide (d.size ≤ 256)) || (decide (2 ≤ k ∧ k ≤ 4) && decide (d.size = 0)))
theorem names_dp (p : ByteArray) : (isP p.data.toList ∧ ¬ (names p).length = 0) ↔ 1 ≤ dp p.data.toList := by
  constructor
  · rintro ⟨h, h0⟩
    rw [dp_pos h]
    rw [names_pos h] at h0
    simp [prts] at h0
    have : (pcs p.data.toList).length ≠ 0 := fun e => h0 (List.length_eq_zero_iff.1 e)
    omega
  · intro h
    have hp : isP p.data.toList := by
      by_cases hp : isP p.data.toList
      · exact hp
      · rw [dp_neg hp] at h
        omega
    refine ⟨hp, ?_⟩
    rw [names_pos hp]
    rw [dp_pos hp] at h
    simp [prts]
    intro e
    rw [e] at h
    simp at h
theorem size_beq (d : ByteArray) : (d.toList == []) = decide (d.size = 0) := by
  rw [Lib.toList_data, Lib.size_eq, Bool.eq_iff_iff]
  rw [beq_iff_eq, decide_eq_true_iff, List.length_eq_zero_iff]
set_option maxRecDepth 10000 in
set_option maxHeartbeats 1000000 in
theorem refRight_any (p : ByteArray) (k : Int) (d : ByteArray) (hz : p.size ≤ 100000) (w : World) : Calls Tryd.prog 41 #[entV p k d] w fun e w' => e = .returned (.bool (rightE p k d)) ∧ Below w.heap.size w w' := by
  obtain ⟨W, hW⟩ : ∃ W, w.alloc (.cells #[.string p, .int .i64 k, .string d] 38) = W := ⟨_, rfl⟩
  obtain ⟨N, hN⟩ : ∃ N, w.heap.size = N := ⟨_, rfl⟩
  have hb : Below N w W := by rw [← hW, ← hN]; exact (Below.refl _ _).alloc (Nat.le_refl _) _
  have hlt : N < W.heap.size := by rw [← hW, ← hN]; simp
  have c0 : W.cell? ⟨N, 0, none⟩ = some (.string p) := by rw [← hW, ← hN]; simp
  have c1 : W.cell? ⟨N, 1, none⟩ = some (.int .i64 k) := by rw [← hW, ← hN]; simp
  have c2 : W.cell? ⟨N, 2, none⟩ = some (.string d) := by rw [← hW, ← hN]; simp
  have HB := Lib.hid hb
  have HLT := Lib.hid hlt
  have HC := Lib.hid (And.intro c1 c2)
  have HND := Lib.hid (names_dp p)
  have HZ := Lib.hid hz
  have HSB := Lib.hid (size_beq d)
  clear hb hlt c1 c2 hz
  go_enter Tryd.func41, Tryd.ntmps41
  go_wp2_with fail
  refine (refSplit_any p HZ.out _).mono ?_
  rintro e w1 ⟨a, cap, rfl, _, hb1⟩
  have d1 : w1.cell? ⟨N, 1, none⟩ = some (.int .i64 k) := (hb1.cell (p := ⟨N, 1, none⟩) HLT.out).trans HC.out.1
  have d2 : w1.cell? ⟨N, 2, none⟩ = some (.string d) := (hb1.cell (p := ⟨N, 2, none⟩) HLT.out).trans HC.out.2
  have HB1 := Lib.hid (show Below N w w1 from HB.out.trans (hb1.mono (Nat.le_of_lt HLT.out)))
  clear hb1 c0 hW
  obtain ⟨nl, hnl⟩ : ∃ nl, (names p).length = nl := ⟨_, rfl⟩
  rw [hnl] at HND ⊢
  clear hnl
  by_cases hP : isP p.data.toList
  · rw [decide_eq_true hP]
    by_cases h0 : nl = 0
    · have hR : rightE p k d = false := by
        unfold rightE
        rw [decide_eq_false (fun h => (HND.out.2 h).2 h0), Bool.false_and]
      have HRR := Lib.hid hR
      have h0' : ((nl : Int) == 0) = true := by rw [h0]; rfl
      clear hP h0 hR
      go_wp2
      go_ret
      exact ⟨by rw [HRR.out]; first | rfl | (simp; done) | (simp; omega), by first | exact HB1.out | (rw [hN]; exact HB1.out)⟩
    · have hD : 1 ≤ dp p.data.toList := HND.out.1 ⟨hP, h0⟩
      have h0' : ((nl : Int) == 0) = false := beq_eq_false_iff_ne.2 (by omega)
      by_cases h1 : k = 1
      · have h1' : ((k : Int) == 1) = true := by rw [h1]; rfl
        have hR : rightE p k d = decide (d.size ≤ 256) := by
          unfold rightE
          rw [decide_eq_true hD, h1]
          simp
        have HRR := Lib.hid hR
        clear hP h0 hR hD h1
        go_wp2
        go_ret
        exact ⟨by rw [HRR.out]; first | rfl | (simp; done) | (simp; omega), by first | exact HB1.out | (rw [hN]; exact HB1.out)⟩
      · have h1' : ((k : Int) == 1) = false := beq_eq_false_iff_ne.2 h1
        have hR : rightE p k d = (decide (2 ≤ k ∧ k ≤ 4) && (d.toList == [])) := by
          unfold rightE
          rw [decide_eq_true hD, h1', HSB.out]
          simp
        by_cases h2 : 2 ≤ k
        · by_cases h3 : k ≤ 4
          · rw [decide_eq_true ⟨h2, h3⟩, Bool.true_and] at hR
            have HRR := Lib.hid hR
            clear hP h0 hR hD h1
            go_wp2
            go_ret
            exact ⟨by rw [HRR.out]; first | rfl | (simp; done) | (simp; omega), by first | exact HB1.out | (rw [hN]; exact HB1.out)⟩
          · rw [decide_eq_false (fun h => h3 h.2), Bool.false_and] at hR
            have HRR := Lib.hid hR
            clear hP h0 hR hD h1
            go_wp2
            go_ret
            exact ⟨by rw [HRR.out]; first | rfl | (simp; done) | (simp; omega), by first | exact HB1.out | (rw [hN]; exact HB1.out)⟩
        · rw [decide_eq_false (fun h => h2 h.1), Bool.false_and] at hR
          have HRR := Lib.hid hR
          clear hP h0 hR hD h1
          go_wp2
          go_ret
          exact ⟨by rw [HRR.out]; first | rfl | (simp; done) | (simp; omega), by first | exact HB1.out | (rw [hN]; exact HB1.out)⟩
  · rw [decide_eq_false hP]
    have hR : rightE p k d = false := by
      unfold rightE
      rw [decide_eq_false (fun h => hP (HND.out.2 h).1), Bool.false_and]
    have HRR := Lib.hid hR
    clear hP hR
    go_wp2
    go_ret
    exact ⟨by rw [HRR.out]; first | rfl | (simp; done) | (simp; omega), by first | exact HB1.out | (rw [hN]; exact HB1.out)⟩
end Go.Proofs.YtflomllfehoedaaDoor

namespace Go.Proofs.YtflomllfehoedaaDoor
open Go.RowKit

/-- An entry's bytes. -/
def layE (p : ByteArray) (k : Nat) (d : ByteArray) : ByteArray := numB k ++ numB p.size ++ p ++ numB d.size ++ d
theorem conv_at {w : World} {b : Nat} {x : Int} (h : w.cell? ⟨b, 0, none⟩ = some (.int .u8 x)) : (convert 34 9 (.slice (some ⟨b, 0, none⟩) 1 1)).run Tryd.prog w = .ok (.string (strOfNums [x])) w := by
  refine run_convert_bytes_arg _ 34 5 Tryd.underlying34 Tryd.underlying5 b 0 1 1 [x] rfl ?_ 9 Tryd.underlying9
  intro i hi
  match i, hi with
  | 0, _ => simpa using h
theorem below_of {B : Nat} {w w1 w2 : World} (h : Below B w w1) (hb : Below w1.heap.size w1 w2) (hB : B ≤ w1.heap.size) : Below B w w2 := h.trans (hb.mono hB)
theorem lt_cps {P : Prop} {a b : Nat} (h : a < b) (hK : a < b → P) : P := hK h
theorem below_cps {P : Prop} {B : Nat} {w X w1 : World} (hb : Below X.heap.size X w1) (h : Below B w X) (hB : B ≤ X.heap.size) (hK : Below B w w1 → P) : P := hK (h.trans (hb.mono hB))
set_option maxRecDepth 10000 in
set_option maxHeartbeats 8000000 in
theorem refLay_any (p : ByteArray) (k : Nat) (d : ByteArray) (hk : k < 128) (hp : p.size ≤ 100000) (hd : d.size ≤ 100000) (w : World) : Calls Tryd.prog 45 #[entV p (k : Int) d] w fun e w' => e = .returned (.string (layE p k d)) ∧ Below w.heap.size w w' := by
  obtain ⟨W, hW⟩ : ∃ W, w.alloc (.cells #[.string p, .int .i64 (k : Int), .string d] 38) = W := ⟨_, rfl⟩
  obtain ⟨N, hN⟩ : ∃ N, w.heap.size = N := ⟨_, rfl⟩
  have hb : Below N w W := by rw [← hW, ← hN]; exact (Below.refl _ _).alloc (Nat.le_refl _) _
  have hlt : N < W.heap.size := by rw [← hW, ← hN]; simp
  have c0 : W.cell? ⟨N, 0, none⟩ = some (.string p) := by rw [← hW, ← hN]; simp
  have c1 : W.cell? ⟨N, 1, none⟩ = some (.int .i64 (k : Int)) := by rw [← hW, ← hN]; simp
  have c2 : W.cell? ⟨N, 2, none⟩ = some (.string d) := by rw [← hW, ← hN]; simp
  have HKS : Hid (∀ X, Below W.heap.size W X → X.cell? ⟨N, 0, none⟩ = some (.string p) ∧ X.cell? ⟨N, 1, none⟩ = some (.int .i64 (k : Int)) ∧ X.cell? ⟨N, 2, none⟩ = some (.string d)) := fun X hX =>
    ⟨(hX.cell (p := ⟨N, 0, none⟩) hlt).trans c0, (hX.cell (p := ⟨N, 1, none⟩) hlt).trans c1, (hX.cell (p := ⟨N, 2, none⟩) hlt).trans c2⟩
  obtain ⟨np, hnp⟩ : ∃ np, numB p.size = np := ⟨_, rfl⟩
  obtain ⟨nd, hnd⟩ : ∃ nd, numB d.size = nd := ⟨_, rfl⟩
  have hnp9 : np.size ≤ 9 := by rw [← hnp]; exact numB_size_nine (by omega)
  have hnd9 : nd.size ≤ 9 := by rw [← hnd]; exact numB_size_nine (by omega)
  have HNP : Hid (∀ X, Calls Tryd.prog 44 #[.int .i64 (p.size : Int)] X fun e w' => e = .returned (.string np) ∧ Below X.heap.size X w') := fun X => by rw [← hnp]; exact rnum_any p.size (by omega) X
  have HND : Hid (∀ X, Calls Tryd.prog 44 #[.int .i64 (d.size : Int)] X fun e w' => e = .returned (.string nd) ∧ Below X.heap.size X w') := fun X => by rw [← hnd]; exact rnum_any d.size (by omega) X
  have hw8 : IntKind.u8.wrap (k : Int) = (k : Int) := by rw [IntKind.wrap_u8]; omega
  obtain ⟨ks, hks⟩ : ∃ ks, strOfNums [(k : Int)] = ks := ⟨_, rfl⟩
  have hcv : ∀ (X : World) (b : Nat), X.cell? ⟨b, 0, none⟩ = some (.int .u8 (k : Int)) → (convert 34 9 (.slice (some ⟨b, 0, none⟩) 1 1)).run Tryd.prog X = .ok (.string ks) X := fun X b h => by rw [← hks]; exact conv_at h
  have HB := Lib.hid hb
  have HLT := Lib.hid hlt
  have hks1 : ks.size = 1 := by rw [← hks, strOfNums_size]; rfl
  have z1 : ¬ 9223372036854775807 < ks.size + np.size := by omega
  have z2 : ¬ 9223372036854775807 < ks.size + np.size + p.size := by omega
  have z3 : ¬ 9223372036854775807 < ks.size + np.size + p.size + nd.size := by omega
  have z4 : ¬ 9223372036854775807 < ks.size + np.size + p.size + nd.size + d.size := by omega
  have HKE := Lib.hid (show layE p k d = ks ++ np ++ p ++ nd ++ d by
    have e : numB k = ks := by
      rw [← hks]
      apply ByteArray.ext
      apply Array.ext'
      rw [numB_list, dg_last hk, strOf_one]
    unfold layE
    rw [e, hnp, hnd])
  clear hks1 hnp hnd hks
  have hka : ∀ (X : World) (o : Obj) (j : Nat), N < X.heap.size → (X.alloc o).cell? ⟨N, j, none⟩ = X.cell? ⟨N, j, none⟩ := fun X o j h => ((Below.refl X.heap.size X).alloc (Nat.le_refl _) o).cell (p := ⟨N, j, none⟩) h
  clear hb
  go_enter Tryd.func45, Tryd.ntmps45
  go_wp2_with fail
  go_region_held (fun X => X.cell? ⟨N, 0, none⟩ = some (.string p) ∧ X.cell? ⟨N, 1, none⟩ = some (.int .i64 (k : Int)) ∧ X.cell? ⟨N, 2, none⟩ = some (.string d))
    ((refine HKS.out _ ?_; (repeat' (first | with_reducible assumption | with_reducible exact Below.refl _ _ | (with_reducible refine Below.drew ?_) | (with_reducible refine Below.alloc ?_ ?_ _) | exact Nat.le_refl _ | omega | (simp <;> omega) | simp))))
    (first
      | (go_at_call 44; with_reducible refine (HNP.out _).mono ?_; rintro e w1 ⟨rfl, hb1⟩; refine below_cps (B := W.heap.size) (w := W) hb1 ?_ ?_ ?_; (focus ((repeat' (first | with_reducible assumption | with_reducible exact Below.refl _ _ | (with_reducible refine Below.drew ?_) | (with_reducible refine Below.alloc ?_ ?_ _) | exact Nat.le_refl _ | omega | (simp <;> omega) | simp)); done)); (focus (first | exact Nat.le_refl _ | omega | (simp <;> omega) | simp)); intro hB1; have hs1 := hB1.size; have hz1 := hb1.size; (try simp at hz1); (try (refine lt_cps (a := W.heap.size) (b := w1.heap.size) ?_ ?_; (focus (omega)); intro hst1)); have hq1 := fun (b : Nat) h => hb1.cell (p := ⟨b, 0, none⟩) h)
      | (go_at_call 44; with_reducible refine (HND.out _).mono ?_; rintro e w2 ⟨rfl, hb2⟩; refine below_cps (B := W.heap.size) (w := W) hb2 ?_ ?_ ?_; (focus ((repeat' (first | with_reducible assumption | with_reducible exact Below.refl _ _ | (with_reducible refine Below.drew ?_) | (with_reducible refine Below.alloc ?_ ?_ _) | exact Nat.le_refl _ | omega | (simp <;> omega) | simp)); done)); (focus (first | exact Nat.le_refl _ | omega | (simp <;> omega) | simp)); intro hB2; have hs2 := hB2.size; have hq2 := fun (b : Nat) h => hb2.cell (p := ⟨b, 0, none⟩) h))
  all_goals
    have hE := HB.out.trans (hB2.mono (Nat.le_of_lt HLT.out))
    have HE := Lib.hid hE
    clear hE
    go_wp2
    go_ret
    exact ⟨by rw [HKE.out]; rfl, by first | exact HE.out | (rw [hN]; exact HE.out) | exact HE.out.alloc HE.out.size _ | (rw [hN]; exact HE.out.alloc (by have := HE.out.size; omega) _) | exact HE.out.alloc (by have := HE.out.size; omega) _⟩
end Go.Proofs.YtflomllfehoedaaDoor

namespace Go.Proofs.YtflomllfehoedaaDoor
open Go.RowKit

theorem layE_list (p : ByteArray) (k : Nat) (d : ByteArray) : (layE p k d).data.toList = dg k ++ (dg p.size ++ (p.data.toList ++ (dg d.size ++ d.data.toList))) := by
  unfold layE
  simp only [ByteArray.data_append, Array.toList_append, numB_list, List.append_assoc]
theorem ba_ext {a b : ByteArray} (h : a.data.toList = b.data.toList) : a = b := by
  apply ByteArray.ext
  exact Array.ext' h
/-- Two entries' bytes, with anything behind them, are the same only if both are. -/
theorem layE_cut {p q d e : ByteArray} {k m : Nat} {x y : List UInt8} (h : (layE p k d).data.toList ++ x = (layE q m e).data.toList ++ y) : p = q ∧ k = m ∧ d = e ∧ x = y := by
  rw [layE_list, layE_list] at h
  simp only [List.append_assoc] at h
  obtain ⟨rfl, h1⟩ := dg_cut _ _ _ _ h
  obtain ⟨h2, h3⟩ := dg_cut _ _ _ _ h1
  obtain ⟨h4, h5⟩ := List.append_inj h3 (by rw [← Lib.size_eq, ← Lib.size_eq]; exact h2)
  obtain ⟨h6, h7⟩ := dg_cut _ _ _ _ h5
  obtain ⟨h8, h9⟩ := List.append_inj h7 (by rw [← Lib.size_eq, ← Lib.size_eq]; exact h6)
  exact ⟨ba_ext h4, rfl, ba_ext h8, h9⟩
theorem rightE_parts {p d : ByteArray} {k : Int} (h : rightE p k d = true) : 1 ≤ dp p.data.toList ∧ 1 ≤ k ∧ k ≤ 4 ∧ d.size ≤ 256 ∧ (k = 1 ∨ d.size = 0) := by
  unfold rightE at h
  rw [Bool.and_eq_true, decide_eq_true_iff, Bool.or_eq_true, Bool.and_eq_true, Bool.and_eq_true, beq_iff_eq, decide_eq_true_iff, decide_eq_true_iff, decide_eq_true_iff] at h
  omega
theorem rightE_of {p d : ByteArray} {k : Int} (h1 : 1 ≤ dp p.data.toList) (h2 : (k = 1 ∧ d.size ≤ 256) ∨ ((2 ≤ k ∧ k ≤ 4) ∧ d.size = 0)) : rightE p k d = true := by
  unfold rightE
  rw [Bool.and_eq_true, decide_eq_true_iff, Bool.or_eq_true, Bool.and_eq_true, Bool.and_eq_true, beq_iff_eq, decide_eq_true_iff, decide_eq_true_iff, decide_eq_true_iff]
  exact ⟨h1, h2⟩
theorem rightE_iff {p d : ByteArray} {k : Int} : rightE p k d = true ↔ 1 ≤ dp p.data.toList ∧ ((k = 1 ∧ d.size ≤ 256) ∨ ((2 ≤ k ∧ k ≤ 4) ∧ d.size = 0)) := by
  unfold rightE
  rw [Bool.and_eq_true, decide_eq_true_iff, Bool.or_eq_true, Bool.and_eq_true, Bool.and_eq_true, beq_iff_eq, decide_eq_true_iff, decide_eq_true_iff, decide_eq_true_iff]
theorem isP_of_dp {l : List UInt8} (h : 1 ≤ dp l) : isP l := by
  by_cases hp : isP l
  · exact hp
  · rw [dp_neg hp] at h
    omega
/-- A path of names has at most 54 bytes. -/
theorem jn_len : ∀ (ns : List (List UInt8)), (∀ x ∈ ns, x.length ≤ 8) → (jn ns).length ≤ 9 * ns.length
  | [], _ => by simp [jn]
  | x :: r, h => by
    have h1 := h x List.mem_cons_self
    have h2 := jn_len r fun y hy => h y (List.mem_cons_of_mem _ hy)
    have h3 : jn (x :: r) = 47 :: (x ++ jn r) := by simp [jn]
    rw [h3]
    simp
    omega
theorem isP_len {l : List UInt8} (h : isP l) : l.length ≤ 54 := by
  have h6 := h.2.1
  have h8 : ∀ x ∈ pcs l, x.length ≤ 8 := fun x hx => nm_len (h.2.2 x hx)
  rw [← h.eq, pth]
  split
  · decide
  · have := jn_len _ h8
    omega
end Go.Proofs.YtflomllfehoedaaDoor

namespace Go.Proofs.YtflomllfehoedaaDoor
open Go.RowKit

/-- Is a text less, byte by byte? -/
def lt8 (a b : List UInt8) : Bool := Op.bytesLess a b
theorem lt8_irr : ∀ a : List UInt8, lt8 a a = false
  | [] => rfl
  | c :: x => by
    have := lt8_irr x
    show (decide (c < c) || (c == c && Op.bytesLess x x)) = false
    rw [show Op.bytesLess x x = false from this]
    simp
theorem lt8_cons (c d : UInt8) (x y : List UInt8) : lt8 (c :: x) (d :: y) = (decide (c < d) || (c == d && lt8 x y)) := rfl
theorem lt8_trans : ∀ {a b c : List UInt8}, lt8 a b = true → lt8 b c = true → lt8 a c = true
  | [], [], _, h, _ => by cases h
  | [], _ :: _, [], _, h => by cases h
  | [], _ :: _, _ :: _, _, _ => rfl
  | _ :: _, [], _, h, _ => by cases h
  | _ :: _, _ :: _, [], _, h => by cases h
  | p :: x, q :: y, r :: z, h1, h2 => by
    rw [lt8_cons, Bool.or_eq_true, Bool.and_eq_true, decide_eq_true_iff, beq_iff_eq, UInt8.lt_iff_toNat_lt] at *
    rcases h1 with h1 | ⟨rfl, h1⟩
    · rcases h2 with h2 | ⟨rfl, h2⟩
      · exact .inl (by omega)
      · exact .inl h1
    · rcases h2 with h2 | ⟨rfl, h2⟩
      · exact .inl h2
      · exact .inr ⟨rfl, lt8_trans h1 h2⟩
theorem lt8_tri : ∀ a b : List UInt8, a = b ∨ lt8 a b = true ∨ lt8 b a = true
  | [], [] => .inl rfl
  | [], _ :: _ => .inr (.inl rfl)
  | _ :: _, [] => .inr (.inr rfl)
  | p :: x, q :: y => by
    rw [lt8_cons, lt8_cons, Bool.or_eq_true, Bool.and_eq_true, decide_eq_true_iff, beq_iff_eq, Bool.or_eq_true, Bool.and_eq_true, decide_eq_true_iff, beq_iff_eq, UInt8.lt_iff_toNat_lt, UInt8.lt_iff_toNat_lt]
    by_cases h : p = q
    · subst h
      rcases lt8_tri x y with rfl | h | h
      · exact .inl rfl
      · exact .inr (.inl (.inr ⟨rfl, h⟩))
      · exact .inr (.inr (.inr ⟨rfl, h⟩))
    · have : p.toNat ≠ q.toNat := fun e => h (UInt8.toNat_inj.1 e)
      rcases Nat.lt_or_gt_of_ne this with h | h
      · exact .inr (.inl (.inl h))
      · exact .inr (.inr (.inl h))
theorem lt8_asymm {a b : List UInt8} (h : lt8 a b = true) : lt8 b a = false := by
  cases h2 : lt8 b a with
  | false => rfl
  | true => have := lt8_trans h h2; rw [lt8_irr] at this; cases this
theorem lt8_ne {a b : List UInt8} (h : lt8 a b = true) : a ≠ b := fun e => by rw [e, lt8_irr] at h; cases h
theorem lt8_prefix : ∀ {a b : List UInt8}, a <+: b → a.length < b.length → lt8 a b = true
  | [], [], _, h => by simp at h
  | [], _ :: _, _, _ => rfl
  | c :: x, [], h, _ => by simp at h
  | c :: x, d :: y, h, hl => by
    obtain ⟨rfl, h2⟩ := List.cons_prefix_cons.1 h
    have := lt8_prefix h2 (by simpa using hl)
    rw [lt8_cons, this]
    simp
/-- An entry: path, kind, data. -/
abbrev Ent := ByteArray × Int × ByteArray
/-- Its path's bytes. -/
abbrev pl (e : Ent) : List UInt8 := e.1.data.toList
def rE (e : Ent) : Bool := rightE e.1 e.2.1 e.2.2
/-- A directory. -/
def hd (e : Ent) : Bool := e.2.1 == 2 || e.2.1 == 4
/-- A path's directory. -/
def par9 (p : List UInt8) : List UInt8 := pth (pcs p).dropLast
/-- An entry that lies in the root, or whose directory is there. -/
def inD (l : List Ent) (e : Ent) : Prop := par9 (pl e) = [47] ∨ ∃ d ∈ l, pl d = par9 (pl e) ∧ hd d = true
instance (l : List Ent) (e : Ent) : Decidable (inD l e) := inferInstanceAs (Decidable (_ ∨ _))
abbrev Asc (l : List Ent) : Prop := l.Pairwise fun a b => lt8 (pl a) (pl b) = true
/-- A right layer, but for its size. -/
def RL (l : List Ent) : Prop := (∀ e ∈ l, rE e = true) ∧ Asc l ∧ ∀ e ∈ l, inD l e
instance (l : List Ent) : Decidable (RL l) := inferInstanceAs (Decidable (_ ∧ _))
/-- A right layer. -/
def RightL (l : List Ent) : Prop := l.length ≤ 64 ∧ RL l
instance (l : List Ent) : Decidable (RightL l) := inferInstanceAs (Decidable (_ ∧ _))

theorem rE_isP {e : Ent} (h : rE e = true) : isP (pl e) ∧ pl e ≠ [47] := by
  obtain ⟨h1, _⟩ := rightE_parts h
  have hp := isP_of_dp h1
  refine ⟨hp, fun e0 => ?_⟩
  rw [dp_pos hp, (pcs_nil hp).2 e0] at h1
  simp at h1
theorem par9_parts {p : List UInt8} (h : isP p) (h1 : p ≠ [47]) : ∃ ms x, good ms ∧ nm x = true ∧ pcs p = ms ++ [x] ∧ p = jn ms ++ 47 :: x ∧ par9 p = pth ms := by
  obtain ⟨ms, x, a1, a2, a3, a4⟩ := par h h1
  exact ⟨ms, x, a1, a2, a3, a4, by unfold par9; rw [a3, List.dropLast_concat]⟩
theorem und_par9 {p q : List UInt8} (h : isP p) (h1 : p ≠ [47]) : und p q = (decide (q = par9 p) || und (par9 p) q) := by
  obtain ⟨ms, x, a1, _, a3, _, a5⟩ := par9_parts h h1
  rw [a5]
  exact und_parent h a1 a3
theorem par9_lt {p : List UInt8} (h : isP p) (h1 : p ≠ [47]) : lt8 (par9 p) p = true := by
  have h2 := und_par9 (q := par9 p) h h1
  rw [decide_eq_true rfl, Bool.true_or] at h2
  obtain ⟨h3, h4⟩ := und_longer h2
  exact lt8_prefix h3 h4
theorem und_lt {p q : List UInt8} (h : und p q = true) : lt8 q p = true := by
  obtain ⟨h3, h4⟩ := und_longer h
  exact lt8_prefix h3 h4

theorem rl_nil : RL [] := ⟨by simp, List.Pairwise.nil, by simp⟩
theorem asc_snoc {l : List Ent} {e : Ent} : Asc (l ++ [e]) ↔ Asc l ∧ ∀ a ∈ l, lt8 (pl a) (pl e) = true := by
  unfold Asc
  rw [List.pairwise_append]
  simp
theorem asc_last {l : List Ent} {e : Ent} (h : Asc l) : (∀ a ∈ l, lt8 (pl a) (pl e) = true) ↔ ∀ a, l.getLast? = some a → lt8 (pl a) (pl e) = true := by
  constructor
  · intro h2 a ha
    exact h2 a (List.mem_of_getLast? ha)
  · intro h2 a ha
    rcases List.eq_nil_or_concat l with rfl | ⟨r, b, rfl⟩
    · cases ha
    · have hb := h2 b (by simp)
      rw [List.concat_eq_append] at *
      rcases List.mem_append.1 ha with h3 | h3
      · exact lt8_trans ((asc_snoc.1 h).2 a h3) hb
      · obtain rfl : a = b := by simpa using h3
        exact hb
theorem rl_snoc {l : List Ent} {e : Ent} : RL (l ++ [e]) ↔ RL l ∧ rE e = true ∧ (∀ a, l.getLast? = some a → lt8 (pl a) (pl e) = true) ∧ inD l e := by
  constructor
  · rintro ⟨h1, h2, h3⟩
    obtain ⟨h4, h5⟩ := asc_snoc.1 h2
    have he := h1 e (by simp)
    obtain ⟨p1, p2⟩ := rE_isP he
    refine ⟨⟨fun x hx => h1 x (by simp [hx]), h4, fun x hx => ?_⟩, he, (asc_last h4).1 h5, ?_⟩
    · refine (h3 x (by simp [hx])).imp_right ?_
      rintro ⟨d, hd1, hd2, hd3⟩
      rcases List.mem_append.1 hd1 with h | h
      · exact ⟨d, h, hd2, hd3⟩
      · obtain rfl : d = e := by simpa using h
        obtain ⟨q1, q2⟩ := rE_isP (h1 x (by simp [hx]))
        have a1 := par9_lt q1 q2
        rw [← hd2] at a1
        have a2 := lt8_trans a1 (h5 x hx)
        rw [lt8_irr] at a2
        cases a2
    · refine (h3 e (by simp)).imp_right ?_
      rintro ⟨d, hd1, hd2, hd3⟩
      rcases List.mem_append.1 hd1 with h | h
      · exact ⟨d, h, hd2, hd3⟩
      · obtain rfl : d = e := by simpa using h
        have a1 := par9_lt p1 p2
        rw [← hd2, lt8_irr] at a1
        cases a1
  · rintro ⟨⟨h1, h2, h3⟩, h4, h5, h6⟩
    refine ⟨fun x hx => ?_, asc_snoc.2 ⟨h2, (asc_last h2).2 h5⟩, fun x hx => ?_⟩
    · rcases List.mem_append.1 hx with h | h
      · exact h1 x h
      · obtain rfl : x = e := by simpa using h
        exact h4
    · rcases List.mem_append.1 hx with h | h
      · exact (h3 x h).imp_right fun ⟨d, a, b⟩ => ⟨d, by simp [a], b⟩
      · obtain rfl : x = e := by simpa using h
        exact h6.imp_right fun ⟨d, a, b⟩ => ⟨d, by simp [a], b⟩
theorem rl_take {l : List Ent} (h : RL l) (n : Nat) : RL (l.take n) := by
  have key : ∀ k (m : List Ent), m.length = k → ∀ n, RL m → RL (m.take n) := by
    intro k
    induction k with
    | zero => intro m hm n h; rw [List.length_eq_zero_iff.1 hm]; simpa using rl_nil
    | succ k ih =>
      intro m hm n h
      rcases List.eq_nil_or_concat m with rfl | ⟨r, b, rfl⟩
      · simpa using rl_nil
      · rw [List.concat_eq_append] at *
        simp at hm
        by_cases hn : n ≤ r.length
        · rw [List.take_append_of_le_length hn]
          exact ih r hm n (rl_snoc.1 h).1
        · rw [List.take_of_length_le (by simp; omega)]
          exact h
  exact key _ l rfl n h
theorem asc_inj {l : List Ent} (h : Asc l) {a b : Ent} (ha : a ∈ l) (hb : b ∈ l) (e : pl a = pl b) : a = b := by
  induction l with
  | nil => cases ha
  | cons x r ih =>
    obtain ⟨h1, h2⟩ := List.pairwise_cons.1 h
    rcases List.mem_cons.1 ha with e1 | ha'
    · rcases List.mem_cons.1 hb with e2 | hb'
      · rw [e1, e2]
      · have := h1 b hb'; rw [← e1, e, lt8_irr] at this; cases this
    · rcases List.mem_cons.1 hb with e2 | hb'
      · have := h1 a ha'; rw [← e2, e, lt8_irr] at this; cases this
      · exact ih h2 ha' hb'

/-- The entry at a path. -/
def fnd (l : List Ent) (p : List UInt8) : Option Ent := l.find? fun e => decide (pl e = p)
theorem fnd_some {l : List Ent} (h : Asc l) {p : List UInt8} {e : Ent} : fnd l p = some e ↔ e ∈ l ∧ pl e = p := by
  unfold fnd
  constructor
  · intro he
    have h1 := List.find?_some he
    exact ⟨List.mem_of_find?_eq_some he, by simpa using h1⟩
  · rintro ⟨h1, h2⟩
    cases hf : l.find? fun e => decide (pl e = p) with
    | none =>
      have := List.find?_eq_none.1 hf e h1
      simp [h2] at this
    | some x =>
      have h3 := List.find?_some hf
      have h4 : pl x = p := by simpa using h3
      rw [asc_inj h (List.mem_of_find?_eq_some hf) h1 (h4.trans h2.symm)]
theorem fnd_none {l : List Ent} {p : List UInt8} : fnd l p = none ↔ ∀ e ∈ l, pl e ≠ p := by
  unfold fnd
  rw [List.find?_eq_none]
  simp

/-- Entries with one, instead of that at its path. -/
def wth (l : List Ent) (e : Ent) : List Ent := l.filter (fun a => lt8 (pl a) (pl e)) ++ e :: l.filter (fun a => lt8 (pl e) (pl a))
/-- Entries without that at a path. -/
def wout (l : List Ent) (p : List UInt8) : List Ent := l.filter fun a => decide (pl a ≠ p)
theorem mem_wth {l : List Ent} {e x : Ent} : x ∈ wth l e ↔ x = e ∨ x ∈ l ∧ pl x ≠ pl e := by
  unfold wth
  rw [List.mem_append, List.mem_cons, List.mem_filter, List.mem_filter]
  constructor
  · rintro (⟨h1, h2⟩ | rfl | ⟨h1, h2⟩)
    · exact .inr ⟨h1, lt8_ne h2⟩
    · exact .inl rfl
    · exact .inr ⟨h1, (lt8_ne h2).symm⟩
  · rintro (rfl | ⟨h1, h2⟩)
    · exact .inr (.inl rfl)
    · rcases lt8_tri (pl x) (pl e) with h | h | h
      · exact absurd h h2
      · exact .inl ⟨h1, h⟩
      · exact .inr (.inr ⟨h1, h⟩)
theorem asc_wth {l : List Ent} (h : Asc l) (e : Ent) : Asc (wth l e) := by
  unfold wth Asc
  rw [List.pairwise_append, List.pairwise_cons]
  refine ⟨h.filter _, ⟨fun x hx => by simpa using (List.mem_filter.1 hx).2, h.filter _⟩, fun a ha b hb => ?_⟩
  have h1 : lt8 (pl a) (pl e) = true := by simpa using (List.mem_filter.1 ha).2
  rcases List.mem_cons.1 hb with rfl | hb
  · exact h1
  · exact lt8_trans h1 (by simpa using (List.mem_filter.1 hb).2)
theorem asc_ext : ∀ {a b : List Ent}, Asc a → Asc b → (∀ x, x ∈ a ↔ x ∈ b) → a = b
  | [], [], _, _, _ => rfl
  | [], y :: s, _, _, h => absurd ((h y).2 List.mem_cons_self) (by simp)
  | x :: r, [], _, _, h => absurd ((h x).1 List.mem_cons_self) (by simp)
  | x :: r, y :: s, ha, hb, h => by
    obtain ⟨a1, a2⟩ := List.pairwise_cons.1 ha
    obtain ⟨b1, b2⟩ := List.pairwise_cons.1 hb
    have hxy : x = y := by
      rcases List.mem_cons.1 ((h x).1 List.mem_cons_self) with e | e
      · exact e
      · rcases List.mem_cons.1 ((h y).2 List.mem_cons_self) with e2 | e2
        · exact e2.symm
        · have := lt8_trans (b1 x e) (a1 y e2)
          rw [lt8_irr] at this
          cases this
    subst hxy
    rw [asc_ext a2 b2 fun z => ?_]
    constructor
    · intro hz
      rcases List.mem_cons.1 ((h z).1 (List.mem_cons_of_mem _ hz)) with rfl | e
      · have := a1 z hz; rw [lt8_irr] at this; cases this
      · exact e
    · intro hz
      rcases List.mem_cons.1 ((h z).2 (List.mem_cons_of_mem _ hz)) with rfl | e
      · have := b1 z hz; rw [lt8_irr] at this; cases this
      · exact e
theorem wth_snoc {l : List Ent} {e : Ent} (h : ∀ a ∈ l, lt8 (pl a) (pl e) = true) : wth l e = l ++ [e] := by
  unfold wth
  rw [List.filter_eq_self.2 h, List.filter_eq_nil_iff.2 fun a ha => by rw [lt8_asymm (h a ha)]; simp]
theorem wth_mem {l : List Ent} (h : Asc l) {e : Ent} (he : e ∈ l) : wth l e = l := by
  refine asc_ext (asc_wth h e) h fun x => ?_
  rw [mem_wth]
  constructor
  · rintro (rfl | ⟨h1, _⟩)
    · exact he
    · exact h1
  · intro hx
    by_cases e1 : pl x = pl e
    · exact .inl (asc_inj h hx he e1)
    · exact .inr ⟨hx, e1⟩
theorem fnd_wth {l : List Ent} (h : Asc l) (e : Ent) (p : List UInt8) : fnd (wth l e) p = if p = pl e then some e else fnd l p := by
  split
  · rename_i h1
    exact (fnd_some (asc_wth h e)).2 ⟨mem_wth.2 (.inl rfl), h1.symm⟩
  · rename_i h1
    cases hf : fnd l p with
    | none =>
      rw [fnd_none] at hf ⊢
      intro x hx
      rcases mem_wth.1 hx with rfl | ⟨h2, _⟩
      · exact fun e0 => h1 e0.symm
      · exact hf x h2
    | some x =>
      rw [fnd_some h] at hf
      rw [fnd_some (asc_wth h e)]
      exact ⟨mem_wth.2 (.inr ⟨hf.1, fun e0 => h1 (hf.2.symm.trans e0)⟩), hf.2⟩
theorem fnd_wout (l : List Ent) (p : List UInt8) : fnd (wout l p) p = none := by
  rw [fnd_none]
  intro e he
  simpa using (List.mem_filter.1 he).2
theorem len_wout {l : List Ent} (h : Asc l) {p : List UInt8} {e : Ent} (he : fnd l p = some e) : (wout l p).length + 1 = l.length := by
  rw [fnd_some h] at he
  obtain ⟨he, hp⟩ := he
  induction l with
  | nil => cases he
  | cons x r ih =>
    obtain ⟨h1, h2⟩ := List.pairwise_cons.1 h
    unfold wout
    rcases List.mem_cons.1 he with rfl | he
    · rw [List.filter_cons_of_neg (by simp [hp]), List.filter_eq_self.2 fun y hy => ?_]
      · rfl
      · have := lt8_ne (h1 y hy)
        simp only [ne_eq, decide_not, Bool.not_eq_eq_eq_not, Bool.not_true, decide_eq_false_iff_not]
        exact fun e0 => this (hp.trans e0.symm)
    · have h3 : pl x ≠ p := fun e0 => by
        have := lt8_ne (h1 e he)
        exact this (e0.trans hp.symm)
      rw [List.filter_cons_of_pos (by simpa using h3), List.length_cons, List.length_cons]
      have := ih h2 he
      unfold wout at this
      omega
/-- What lies under a path. -/
def blw (l : List Ent) (p : List UInt8) : List Ent := l.filter fun a => und (pl a) p
/-- The rest: neither at a path nor under it. -/
def rst (l : List Ent) (p : List UInt8) : List Ent := l.filter fun a => !und (pl a) p && decide (pl a ≠ p)
theorem rl_rst {l : List Ent} (h : RL l) (p : List UInt8) : RL (rst l p) := by
  obtain ⟨h1, h2, h3⟩ := h
  refine ⟨fun e he => h1 e ((List.mem_filter.1 he).1), h2.filter _, fun e he => ?_⟩
  have hr := h1 e ((List.mem_filter.1 he).1)
  obtain ⟨p1, p2⟩ := rE_isP hr
  refine (h3 e ((List.mem_filter.1 he).1)).imp_right ?_
  rintro ⟨d, hd1, hd2, hd3⟩
  refine ⟨d, List.mem_filter.2 ⟨hd1, ?_⟩, hd2, hd3⟩
  have hu := (List.mem_filter.1 he).2
  rw [Bool.and_eq_true, Bool.not_eq_eq_eq_not, Bool.not_true, decide_eq_true_iff] at hu ⊢
  have hq := und_par9 (q := p) p1 p2
  rw [hu.1] at hq
  rw [hd2]
  rw [eq_comm, Bool.or_eq_false_iff, decide_eq_false_iff_not] at hq
  exact ⟨hq.2, fun e0 => hq.1 e0.symm⟩
theorem len_rst (l : List Ent) (p : List UInt8) : (rst l p).length ≤ l.length := List.length_filter_le _ _
end Go.Proofs.YtflomllfehoedaaDoor

namespace Go.Proofs.YtflomllfehoedaaDoor
open Go.RowKit

/-- A number lies there; it. -/
def IsC1 (k : IntKind) (w : World) : Value → Prop
  | .pointer (some ⟨b, o, none⟩) => ∃ v, w.cell? ⟨b, o, none⟩ = some (.int k v)
  | _ => False
def c1V (w : World) : Value → Value
  | .pointer (some p) => (w.cell? p).getD undef
  | _ => undef
theorem isC1_ptr (k : IntKind) (w : World) (b o : Nat) : IsC1 k w (.pointer (some ⟨b, o, none⟩)) = ∃ v, w.cell? ⟨b, o, none⟩ = some (.int k v) := rfl
theorem c1V_ptr (w : World) (p : Addr) : c1V w (.pointer (some p)) = (w.cell? p).getD undef := rfl
theorem old_ldi {d : Option Tmp} {ty : TypeId} {pos : String} {af : Array Edge} {g : Option (Nat × Bool)} {x : Operand} {a : Act} {w0 : World} {K : Act → Prop} (h : IsC1 .i64 w0 (a.eval x)) :
    Oper.quiet Tryd.prog { dst := d, op := .load 3 x, type := ty, pos := pos, after := af, guard := g } a (OldC w0) K = K (a.put d (c1V w0 (a.eval x))) := by
  refine old_eq fun w hw => ?_
  have hl : (Instr.loadAt 3 (a.eval x)).run Tryd.prog w = .ok (c1V w0 (a.eval x)) w := by
    match a.eval x, h with
    | .pointer (some ⟨b, o, none⟩), ⟨v, hv⟩ =>
      have h2 := (Below.cell hw (p := ⟨b, o, none⟩) (World.block_lt_of_cell? w0 _ hv)).trans hv
      rw [c1V_ptr, hv]
      simp [go_sem, h2]
  unfold execOp
  simp only [Sem.run_bind, Sem.run_pure, Result.andThen_ok, hl]
theorem old_ldu {d : Option Tmp} {ty : TypeId} {pos : String} {af : Array Edge} {g : Option (Nat × Bool)} {x : Operand} {a : Act} {w0 : World} {K : Act → Prop} (h : IsC1 .u32 w0 (a.eval x)) :
    Oper.quiet Tryd.prog { dst := d, op := .load 56 x, type := ty, pos := pos, after := af, guard := g } a (OldC w0) K = K (a.put d (c1V w0 (a.eval x))) := by
  refine old_eq fun w hw => ?_
  have hl : (Instr.loadAt 56 (a.eval x)).run Tryd.prog w = .ok (c1V w0 (a.eval x)) w := by
    match a.eval x, h with
    | .pointer (some ⟨b, o, none⟩), ⟨v, hv⟩ =>
      have h2 := (Below.cell hw (p := ⟨b, o, none⟩) (World.block_lt_of_cell? w0 _ hv)).trans hv
      rw [c1V_ptr, hv]
      simp [go_sem, h2]
  unfold execOp
  simp only [Sem.run_bind, Sem.run_pure, Result.andThen_ok, hl]
/-- A text lies there. -/
def IsS1 (w : World) : Value → Prop
  | .pointer (some ⟨b, o, none⟩) => ∃ v, w.cell? ⟨b, o, none⟩ = some (.string v)
  | _ => False
theorem isS1_ptr (w : World) (b o : Nat) : IsS1 w (.pointer (some ⟨b, o, none⟩)) = ∃ v, w.cell? ⟨b, o, none⟩ = some (.string v) := rfl
theorem old_lds {d : Option Tmp} {ty : TypeId} {pos : String} {af : Array Edge} {g : Option (Nat × Bool)} {x : Operand} {a : Act} {w0 : World} {K : Act → Prop} (h : IsS1 w0 (a.eval x)) :
    Oper.quiet Tryd.prog { dst := d, op := .load 9 x, type := ty, pos := pos, after := af, guard := g } a (OldC w0) K = K (a.put d (c1V w0 (a.eval x))) := by
  refine old_eq fun w hw => ?_
  have hl : (Instr.loadAt 9 (a.eval x)).run Tryd.prog w = .ok (c1V w0 (a.eval x)) w := by
    match a.eval x, h with
    | .pointer (some ⟨b, o, none⟩), ⟨v, hv⟩ =>
      have h2 := (Below.cell hw (p := ⟨b, o, none⟩) (World.block_lt_of_cell? w0 _ hv)).trans hv
      rw [c1V_ptr, hv]
      simp [go_sem, h2]
  unfold execOp
  simp only [Sem.run_bind, Sem.run_pure, Result.andThen_ok, hl]
end Go.Proofs.YtflomllfehoedaaDoor

namespace Go.Proofs.YtflomllfehoedaaDoor
open Go.RowKit

/-- An entry in memory. -/
def EnAt (w : World) (b : Nat) (p : ByteArray) (k : Int) (d : ByteArray) : Prop := w.heap[b]? = some (.cells #[.string p, .int .i64 k, .string d] 38 (0, 0))
theorem cell_of8 {w : World} {b : Nat} {cs : Array Value} {t : TypeId} (h : w.heap[b]? = some (.cells cs t (0, 0))) {j : Nat} {v : Value} (hj : cs[j]? = some v) : w.cell? ⟨b, j, none⟩ = some v ∧ w.frozen? ⟨b, j, none⟩ = false := by
  simp [World.cell?, World.frozen?, h, hj]
theorem set_of8 {w : World} {b : Nat} {cs : Array Value} {t : TypeId} (h : w.heap[b]? = some (.cells cs t (0, 0))) (j : Nat) (v : Value) : (w.setCell ⟨b, j, none⟩ v).heap[b]? = some (.cells (cs.setIfInBounds j v) t (0, 0)) := by
  simp [World.setCell, Array.getElem?_modify, h]
section
variable {w w' : World} {b : Nat} {p d : ByteArray} {k : Int}
theorem enAt_new (w : World) (p : ByteArray) (k : Int) (d : ByteArray) : EnAt (w.alloc (.cells #[.string p, .int .i64 k, .string d] 38)) w.heap.size p k d := heap_alloc_new _ _
theorem EnAt.lt (h : EnAt w b p k d) : b < w.heap.size := (Array.getElem?_eq_some_iff.1 h).1
theorem EnAt.of (h : EnAt w b p k d) (hb : w'.heap[b]? = w.heap[b]?) : EnAt w' b p k d := hb.trans h
theorem EnAt.below (h : EnAt w b p k d) (hb : Below w.heap.size w w') : EnAt w' b p k d := h.of (hb.block b h.lt)
theorem EnAt.c0 (h : EnAt w b p k d) : w.cell? ⟨b, 0, none⟩ = some (.string p) := (cell_of8 h rfl).1
theorem EnAt.c1 (h : EnAt w b p k d) : w.cell? ⟨b, 1, none⟩ = some (.int .i64 k) := (cell_of8 h rfl).1
theorem EnAt.c2 (h : EnAt w b p k d) : w.cell? ⟨b, 2, none⟩ = some (.string d) := (cell_of8 h rfl).1
theorem EnAt.f0 (h : EnAt w b p k d) : w.frozen? ⟨b, 0, none⟩ = false := (cell_of8 h (j := 0) rfl).2
theorem EnAt.f1 (h : EnAt w b p k d) : w.frozen? ⟨b, 1, none⟩ = false := (cell_of8 h (j := 1) rfl).2
theorem EnAt.f2 (h : EnAt w b p k d) : w.frozen? ⟨b, 2, none⟩ = false := (cell_of8 h (j := 2) rfl).2
theorem EnAt.range (h : EnAt w b p k d) : w.rangeAt b 0 [.string p, .int .i64 k, .string d] := fun j v hv => by
  rw [Nat.zero_add]
  exact (cell_of8 h (by simpa using hv)).1
theorem enSize : (Tryd.prog.info? 38).map (·.size) = some 3 := by kernel_rfl
theorem lv_en (h : EnAt w b p k d) : (loadVar 38 ⟨b, 0, none⟩).run Tryd.prog w = .ok (entV p k d) w :=
  run_loadVar_mid w b 0 38 _ _ h.range Tryd.underlying38 rfl (by rw [enSize]; rfl)
theorem ld_en (h : EnAt w b p k d) : (Instr.loadAt 38 (.pointer (some ⟨b, 0, none⟩))).run Tryd.prog w = .ok (entV p k d) w :=
  run_loadAt_mid w b 0 38 _ _ h.range Tryd.underlying38 rfl (by rw [enSize]; rfl)
/-- What a store of a whole entry leaves. -/
abbrev enSet (w : World) (b : Nat) (p : ByteArray) (k : Int) (d : ByteArray) : World := ((w.setCell ⟨b, 0, none⟩ (.string p)).setCell ⟨b, 1, none⟩ (.int .i64 k)).setCell ⟨b, 2, none⟩ (.string d)
theorem EnAt.set (h : EnAt w b p k d) (p' : ByteArray) (k' : Int) (d' : ByteArray) : EnAt (enSet w b p' k' d') b p' k' d' := by
  have h1 := set_of8 h 0 (.string p')
  have h2 := set_of8 h1 1 (.int .i64 k')
  exact set_of8 h2 2 (.string d')
theorem below_en3 {B : Nat} {a : World} (h : Below B a w) (hb : B ≤ b) (p : ByteArray) (k : Int) (d : ByteArray) : Below B a (enSet w b p k d) := ((h.setCell (p := ⟨b, 0, none⟩) hb _).setCell (p := ⟨b, 1, none⟩) hb _).setCell (p := ⟨b, 2, none⟩) hb _
end
end Go.Proofs.YtflomllfehoedaaDoor

namespace Go.Proofs.YtflomllfehoedaaDoor
open Go.RowKit

/-- An entry's cells. -/
abbrev enc (e : Ent) : List Value := [.string e.1, .int .i64 e.2.1, .string e.2.2]
/-- An entry as a value. -/
abbrev enV (e : Ent) : Value := entV e.1 e.2.1 e.2.2
/-- A slice of entries in memory. -/
abbrev Ents (w : World) (a : Option Addr) (cap : Nat) (l : List Ent) : Prop := RowN 3 enc w a cap l
theorem ents_nil (w : World) (a : Option Addr) (cap : Nat) : Ents w a cap [] := ⟨by simp, .inl rfl⟩
/-- An element's cells. -/
structure EnCells (w : World) (b o : Nat) (e : Ent) : Prop where
  c0 : w.cell? ⟨b, o, none⟩ = some (.string e.1)
  c1 : w.cell? ⟨b, o + 1, none⟩ = some (.int .i64 e.2.1)
  c2 : w.cell? ⟨b, o + 2, none⟩ = some (.string e.2.2)
theorem enCells_of {w : World} {b o : Nat} {e : Ent} (h : w.rangeAt b o (enc e)) : EnCells w b o e := ⟨h 0 _ rfl, h 1 _ rfl, h 2 _ rfl⟩
theorem Ents.at {w w' : World} {a : Option Addr} {cap : Nat} {l : List Ent} (h : Ents w a cap l) (hb : Below w.heap.size w w') {k : Nat} (hk : k < l.length) :
    ∃ b off, a = some ⟨b, off, none⟩ ∧ b < w.heap.size ∧ EnCells w' b (off + k * 3) l[k] := by
  rcases h.2 with h0 | ⟨b, off, rfl, hlt, hc⟩
  · rw [h0] at hk; simp at hk
  · exact ⟨b, off, rfl, hlt, enCells_of (rangeAt_below (hc k l[k] (List.getElem?_eq_getElem hk)) hb hlt)⟩
/-- A slice of entries that a call made itself. -/
abbrev OwnE (w : World) (B : Nat) (v : Value) (l : List Ent) : Prop := w.ownsRow B 38 3 v l.length (l.flatMap enc)
theorem ownE_nil (w : World) (B : Nat) : OwnE w B (.slice none 0 0) [] := ⟨by simp, .inl ⟨rfl, rfl⟩⟩
theorem infoEn : (Tryd.prog.info? 38).map (fun i => (i.zero, i.size, i.bytes)) = some (some (entV ⟨#[]⟩ 0 ⟨#[]⟩), 3, 40) := by kernel_rfl
theorem flat_get (l : List Ent) (j i : Nat) (hi : i < 3) : (l.flatMap enc)[j * 3 + i]? = (l[j]?).bind fun e => (enc e)[i]? := by
  induction l generalizing j with
  | nil => simp
  | cons x r ih =>
    rw [List.flatMap_cons]
    cases j with
    | zero =>
      rw [List.getElem?_append_left (by simp; omega)]
      simp
    | succ j =>
      rw [List.getElem?_append_right (by simp; omega)]
      have := ih j
      simp only [List.length_cons, List.length_nil, List.getElem?_cons_succ] at this ⊢
      rw [← this]
      congr 1
      omega
theorem ents_of_own {w : World} {B : Nat} {v : Value} {l : List Ent} (h : OwnE w B v l) : ∃ a cap, v = .slice a l.length cap ∧ Ents w a cap l := by
  obtain ⟨_, ⟨rfl, h0⟩ | ⟨g, cap, cur, rfl, hg, hbk, hc, _, _, ht⟩⟩ := h
  · exact ⟨none, 0, by rw [h0], by omega, .inl (List.length_eq_zero_iff.1 h0)⟩
  · refine ⟨_, cap, rfl, hc, .inr ⟨g, 0, rfl, (Array.getElem?_eq_some_iff.1 hbk).1, fun j x hx i v hv => ?_⟩⟩
    have hi : i < 3 := (List.getElem?_eq_some_iff.1 hv).1
    have hj : j < l.length := (List.getElem?_eq_some_iff.1 hx).1
    have h1 := flat_get l j i hi
    rw [hx, Option.bind_some, hv, ← ht, List.getElem?_take_of_lt (by omega), Array.getElem?_toList] at h1
    rw [Lib.cell_of_heap hbk]
    simpa using h1
theorem ownE_gen {w w' : World} {B : Nat} {v : Value} {l : List Ent} (h : OwnE w B v l) (hb : ∀ k, v.ownBlock = some k → w'.heap[k]? = w.heap[k]?) : OwnE w' B v l := by
  obtain ⟨h1, ⟨rfl, h2⟩ | ⟨g, cap, cur, rfl, h3, h4, h5⟩⟩ := h
  · exact ⟨h1, .inl ⟨rfl, h2⟩⟩
  · exact ⟨h1, .inr ⟨g, cap, cur, rfl, h3, (hb g rfl).trans h4, h5⟩⟩
theorem ownE_blk {w : World} {B : Nat} {v : Value} {l : List Ent} (h : OwnE w B v l) : ∀ k, v.ownBlock = some k → B ≤ k ∧ k < w.heap.size := fun k hk => by
  obtain ⟨_, ⟨rfl, h2⟩ | ⟨g, cap, cur, rfl, h3, h4, _⟩⟩ := h
  · cases hk
  · obtain rfl : g = k := by simpa [Value.ownBlock] using hk
    exact ⟨h3, (Array.getElem?_eq_some_iff.1 h4).1⟩
theorem OwnE.below {w w' : World} {B : Nat} {v : Value} {l : List Ent} (h : OwnE w B v l) (hb : Below w.heap.size w w') : OwnE w' B v l := ownE_gen h fun k hk => hb.block k (ownE_blk h k hk).2
/-- An entry at the end of a slice that a call made itself, the entry in a new block. -/
theorem wl_putE {w : World} {ops : Array Oper} {rest : List Oper} {o : Oper} {a : Act} {Q : Exit → Act → World → Prop} (hgd : o.guard = none) (s x : Operand)
    (ho : o.op = .call { callee := .builtin .append, args := #[s, x], argTypes := #[22, 22] }) (B : Nat) (v : Value) (l : List Ent) (e : Ent) (hs : a.eval s = v) (hown : OwnE w B v l) (hB : B ≤ w.heap.size)
    (M : Nat) (hx : a.eval x = .slice (some ⟨M, 0, none⟩) 1 1) (hM : EnAt w M e.1 e.2.1 e.2.2) (hl : l.length ≤ 1000)
    (h : ∀ v' w', OwnE w' B v' (l ++ [e]) → w.grownBy w' v.ownBlock → wpList Tryd.prog ops Q rest (a.put o.dst v') w') : wpList Tryd.prog ops Q (o :: rest) a w := by
  obtain ⟨ie, hie, hz, hsz, hby⟩ := info_parts infoEn
  refine wl_append_any hgd s x 22 ho B 38 ie _ 3 40 Tryd.underlying22 hie hz hsz hby rfl (by decide) v l.length _ hs hown (some ⟨M, 0, none⟩) 1 1 (enc e) hx rfl ?_ (fun e => by cases e) ?_ (by unfold maxLen; omega) (by omega) hB ?_
  · intro ad e1 j u hu
    cases e1
    rw [Addr.add_lit]
    exact hM.range j u hu
  · intro u hu
    rcases List.mem_cons.1 hu with rfl | hu
    · rfl
    rcases List.mem_cons.1 hu with rfl | hu
    · rfl
    rcases List.mem_cons.1 hu with rfl | hu
    · rfl
    cases hu
  · intro v' w' h1 h2
    refine h v' w' ?_ h2
    unfold OwnE
    rw [List.length_append, List.flatMap_append]
    simpa using h1
end Go.Proofs.YtflomllfehoedaaDoor
