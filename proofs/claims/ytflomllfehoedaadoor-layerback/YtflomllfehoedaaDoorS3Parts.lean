/-
  Contracts of path.parts and of the iterator that it hands back: it goes through the pieces of a text, for every loop body. Condition: the text has a byte.
-/
import Derived.RangeFuncNested
import Derived.RangeFuncBound
import Derived.RangeFuncCalls
import Derived.RangeFuncLeaves
import Derived.RangeFuncBox
import Derived.Maps.AppendAt
import Derived.Shelf.Abstract
import Derived.Shelf.RegionOpen
import Derived.WalkKit
import Derived.OwnWalkIn
import Derived.TacticsInMore
import Derived.LoopNIn
import Derived.LoopIn
import Derived.Test.YtflomllfehoedaaDoorS3Cut
import Derived.Test.YtflomllfehoedaaDoorBs
namespace Go.Proofs.YtflomllfehoedaaDoor
open Go.RowKit Go.Shelf
attribute [local go_sem] Oper.semAt_some

theorem bs_data (s : ByteArray) : bs s.data.toList = s := Lib.mk_data s
theorem data_bs (l : List UInt8) : (bs l).data.toList = l := rfl
def prts (p : ByteArray) : List ByteArray := (pcs p.data.toList).map bs
/-- what is still to come -/
def left (r : ByteArray) (m : Bool) : List ByteArray := if m then (spl r.data.toList).map bs else []
def mes : Value → Value → Nat
  | .string r, .bool true => r.size + 1
  | _, _ => 0
theorem left_cut {r x y : ByteArray} {m : Bool} (h : CutAt r x y m) : left r true = x :: left y m ∧ mes (.string y) (.bool m) < mes (.string r) (.bool true) ∧ y.size ≤ r.size := by
  rcases h with ⟨rfl, h1, rfl, rfl⟩ | ⟨rfl, h1, h2⟩
  · exact ⟨by simp [left, spl_noslash _ h1, bs_data], by simp [mes], Nat.zero_le _⟩
  · have : y.size < r.size := by rw [Lib.size_eq, Lib.size_eq, h2]; simp; omega
    exact ⟨by simp [left, h2, spl_cut _ _ h1, bs_data], by simp [mes]; omega, by omega⟩
theorem grown_drewN (w : World) (n : Nat) : w.grownBy (w.drewN n) none := ⟨rfl, rfl, rfl, Nat.le_refl _, fun _ _ _ => rfl⟩
theorem grown_drew (w : World) : w.grownBy w.drew none := ⟨rfl, rfl, rfl, Nat.le_refl _, fun _ _ _ => rfl⟩

theorem parts_any (p : ByteArray) (w : World) : Calls Tryd.prog 50 #[.string p] w fun e w' => e = .returned (.func (.func 69) #[] #[.pointer (some ⟨w.heap.size, 0, none⟩)]) ∧ w.alloc (.cells #[.string p] 9) = w' := by
  go_enter Tryd.func50, Tryd.ntmps50
  go_wp2
  go_ret
  exact ⟨rfl, rfl⟩

set_option maxRecDepth 100000 in
set_option maxHeartbeats 2000000 in
theorem parts1_in (n : Nat) (hn : 1 ≤ n) (l Bn n₀ B : Nat) (p : ByteArray) (hh : p.data.toList.head? = some 47) (hz : p.size ≤ 9223372036854775807) (J Jx : List ByteArray → World → Prop) (hJ : AbidesFrom B J)
    (hY : ∀ pre x W, J pre W → pre.length < (prts p).length → YieldAt Fence.wide (n - 1) Tryd.prog l #[.string x] W fun e W' =>
      (e = .returned (.bool true) ∧ J (pre ++ [x]) W' ∧ Below n₀ W W') ∨ (e = .returned (.bool false) ∧ Jx (pre ++ [x]) W'))
    (W : World) (hBn : W.cell? ⟨Bn, 0, none⟩ = some (.string p)) (h0 : J [] W) :
    CallsIn Fence.wide n Tryd.prog 69 #[.func (.yield l) #[] #[], .pointer (some ⟨Bn, 0, none⟩)] W fun e W' => (∃ v, e = .returned v) ∧
      ((∃ ys, ys = prts p ∧ J ys W') ∨ (∃ pre, pre <+: prts p ∧ Jx pre W')) := by
  have hdrew : ∀ pre W k, J pre W → J pre (W.drewN k) := fun pre W k h => hJ pre W _ none h (grown_drewN W k) (fun r e => by cases e)
  have HD := Lib.hid hdrew
  have HY := Lib.hid hY
  obtain ⟨c, r, hcr⟩ : ∃ c r, p.data.toList = c :: r := by
    cases h : p.data.toList with
    | nil => rw [h] at hh; cases hh
    | cons c r => exact ⟨c, r, rfl⟩
  have h1 : (1 : Int) ≤ p.size := by rw [Lib.size_eq, hcr]; simp; omega
  have hle : (p.extract 1 p.size).size ≤ p.size := by rw [Lib.size_eq, Lib.extract_data, Lib.size_eq]; simp
  have hstart : ∀ m : Bool, m = (!(p.toList == [47])) → prts p = [] ++ left (p.extract 1 p.size) m := fun m hm => by
    obtain rfl : c = 47 := by rw [hcr] at hh; simpa using hh
    have he : (p.extract 1 p.size).data.toList = r := by
      rw [Lib.extract_data, hcr, List.drop_one, List.tail_cons, List.take_of_length_le]
      rw [Lib.size_eq, hcr]
      simp
    rw [Lib.toList_data, hcr] at hm
    subst hm
    rw [prts, hcr, pcs, left, he]
    by_cases hr : r = []
    · subst hr; rfl
    · have : ((47 : UInt8) :: r == [47]) = false := by simp [hr]
      simp [hr, this]
  have HS := Lib.hid hstart
  have HZ := Lib.hid hz
  have hmix : Tryd.prog.follows .mixedOrders = true := by kernel_rfl
  have HL := Lib.hid hle
  have H0 := Lib.hid h0
  clear hdrew hY hJ hstart hz hle h0 hcr hh
  refine callsIn_of_wp Tryd.func69 rfl trivial ?_ rfl
  simp only [Tryd.ntmps69, List.size_toArray, List.length_cons, List.length_nil, Nat.reduceAdd, Nat.reduceSub, Array.replicate_succ, Array.replicate_zero, List.push_toArray, List.append_toArray, List.nil_append, List.cons_append]
  gi_wp2
  gi_region_o
  gi_wp2
  gi_loopw [3, 4] (fun r m wr => ∃ (pre : List ByteArray) (rest : ByteArray) (more : Bool), r = .string rest ∧ m = .bool more ∧ Hid (prts p = pre ++ left rest more) ∧ Hid (rest.size ≤ p.size) ∧ Hid (J pre wr)) (fun r m _ => mes r m)
  case atStart => exact ⟨[], _, _, rfl, rfl, HS.out _ rfl, HL.out, HD.out [] W 1 H0.out⟩
  case round =>
    obtain ⟨pre, rest, more, rfl, rfl, hx, hle, hJs⟩ := hrel
    cases more with
    | false =>
      gi_wp2
      go_end0
      exact ⟨⟨_, rfl⟩, .inl ⟨pre, by rw [hx.out]; simp [left], hJs.out⟩⟩
    | true =>
      gi_wp2_with (refine ⟨trivial, ?_⟩; gi_at_call 70; refine (callsIn_wide.2 (Cut47 rest (Nat.le_trans hle.out HZ.out) _)).mono ?_)
      rintro e wc ⟨x, y, m, rfl, hc, k, rfl⟩
      have hc2 := left_cut hc
      have hx2 : prts p = (pre ++ [x]) ++ left y m := by rw [hx.out, hc2.1]; simp
      have hlen : pre.length < (prts p).length := by rw [hx2]; simp
      have HX2 := Lib.hid hx2
      have HC2 := Lib.hid hc2.2
      obtain ⟨fn, tmps, assign, body, hy, hR⟩ := HY.out pre x _ (HD.out pre wr k hJs.out) hlen
      clear hc hc2 hx2 hlen
      gi_wp2
      refine hR.mono ?_
      rintro e W3 (⟨rfl, hJ3, hk3⟩ | ⟨rfl, hJx3⟩)
      · have HJ3 := Lib.hid hJ3
        clear hJ3 hk3
        gi_wp2
        go_roundw
        case rel => exact ⟨pre ++ [x], y, m, rfl, rfl, HX2.out, Nat.le_trans HC2.out.2 hle.out, HJ3.out⟩
        case measure => exact HC2.out.1
      · have HJ3 := Lib.hid hJx3
        clear hJx3
        gi_wp2
        refine bodyPost_ret (results_none rfl _ _ _) rfl ?_
        exact ⟨⟨_, rfl⟩, .inr ⟨pre ++ [x], ⟨left y m, HX2.out.symm⟩, HJ3.out⟩⟩

/-- parts(p) hands back what goes through the pieces of p: all, or as many as the loop's body lets. -/
theorem parts_stops (n : Nat) (hn : 1 ≤ n) (Bn n₀ : Nat) (p : ByteArray) (hh : p.data.toList.head? = some 47) (hz : p.size ≤ 9223372036854775807) (w : World) (hBn : Bn < w.heap.size)
    (hc : w.cell? ⟨Bn, 0, none⟩ = some (.string p)) :
    SeqStopsK Fence.wide n Tryd.prog 69 #[.pointer (some ⟨Bn, 0, none⟩)] (fun x : ByteArray => #[Value.string x]) (Below n₀) (fun ys => ys = prts p) (fun pre => pre <+: prts p) (prts p).length w := fun l J Jx W hW hJ _ hY h0 =>
  parts1_in n hn l Bn n₀ W.heap.size p hh hz J Jx hJ hY W ((hW.cell (p := ⟨Bn, 0, none⟩) hBn).trans hc) h0
end Go.Proofs.YtflomllfehoedaaDoor
