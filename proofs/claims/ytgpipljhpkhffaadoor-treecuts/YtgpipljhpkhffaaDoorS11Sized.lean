/-
  Contracts of package tree's sized, and of the closures by which Write and Cut make new data of old ones. Conditions: texts of at most 1000 bytes, lengths of at most 1000.
-/
import Derived.Test.YtgpipljhpkhffaaDoorShelf
import Derived.Test.YtgpipljhpkhffaaDoorPb
import Derived.Test.YtgpipljhpkhffaaDoorPc
import Derived.Lib.Hide
import Derived.IntWalk
namespace Go.Proofs.YtgpipljhpkhffaaDoor
open Go.RowKit

theorem padL_take {s : List UInt8} {n : Nat} (h : n ≤ s.length) : padL s n = s.take n := by
  unfold padL
  rw [List.take_append_of_le_length h]
theorem padL_more {s : List UInt8} {n : Nat} (h : s.length ≤ n) : padL s n = s ++ List.replicate (n - s.length) 0 := by
  unfold padL
  rw [List.take_of_length_le]
  simp
  omega
theorem len_padL (s : List UInt8) (n : Nat) : (padL s n).length = n := by
  unfold padL
  simp
  omega
set_option maxRecDepth 10000 in
set_option maxHeartbeats 1000000 in
theorem sized11 (s : ByteArray) (n : Nat) (w : World) (hs : s.size ≤ 1000) (hn : n ≤ 1000) : Calls Tryd.prog 30 #[.string s, .int .i64 (n : Int)] w fun e w' => e = .returned (.string ⟨(padL s.data.toList n).toArray⟩) ∧ Below w.heap.size w w' := by
  by_cases h : n ≤ s.size
  · have g1 : (n : Int) ≤ (s.size : Int) := by omega
    have HV := Lib.hid (padL_take (s := s.data.toList) (n := n) (by rw [← Lib.size_eq]; exact h))
    go_enter Tryd.func30, Tryd.ntmps30
    have he : s.extract 0 n = ⟨(padL s.data.toList n).toArray⟩ := by
      refine ba_ext ?_
      rw [HV.out, Lib.extract_data]
      simp
    go_wp2
    go_ret
    exact ⟨by rw [← he]; rfl, Below.refl _ _⟩
  · have g1 : ¬ (n : Int) ≤ (s.size : Int) := by omega
    have HC := Lib.hid (fun W => Tryd.strings_Repeat ⟨#[0]⟩ (n - s.size) W (by omega) (by show 1 * _ ≤ _; omega))
    rw [show ((n - s.size : Nat) : Int) = (n : Int) - (s.size : Int) by omega] at HC
    have HV := Lib.hid (padL_more (s := s.data.toList) (n := n) (by rw [← Lib.size_eq]; omega))
    have HS := Lib.hid (Lib.size_eq s)
    obtain ⟨z, hz⟩ : ∃ z : ByteArray, ⟨(Lib.repeatL (⟨#[0]⟩ : ByteArray).data.toList (n - s.size)).toArray⟩ = z := ⟨_, rfl⟩
    have hzs : z.size = n - s.size := by rw [Lib.size_eq, ← hz]; simp [Lib.repeatL_length]
    have he : s ++ z = ⟨(padL s.data.toList n).toArray⟩ := by
      refine ba_ext ?_
      rw [HV.out, ← HS.out, ByteArray.data_append, ← hz]
      have := Lib.repeatL_replicate 0 1 (n - s.size)
      simp at this
      simp [this]
    rw [hz] at HC
    have HEQ := Lib.hid he
    have hsum : ¬ 9223372036854775807 < s.size + z.size := by omega
    clear he hz
    have hw : IntKind.i64.wrap ((n : Int) - (s.size : Int)) = (n : Int) - (s.size : Int) := IntWalk.i64_in _ (by omega)
    go_enter Tryd.func30, Tryd.ntmps30
    go_wp2_with fail
    refine (HC.out _).mono ?_
    rintro e w1 ⟨rfl, hb⟩
    have HB := Lib.hid hb
    clear hb
    go_wp2
    go_ret
    exact ⟨by rw [← HEQ.out]; rfl, HB.out⟩
set_option maxRecDepth 10000 in
set_option maxHeartbeats 1000000 in
theorem cclo11 (old : ByteArray) (n bn : Nat) (W : World) (cn : W.cell? ⟨bn, 0, none⟩ = some (.int .i64 (n : Int))) (ho : old.size ≤ 1000) (hn : n ≤ 1000) :
    Calls Tryd.prog 37 (#[.string old] ++ #[.pointer (some ⟨bn, 0, none⟩)]) W fun e w' => e = .returned (.string ⟨(padL old.data.toList n).toArray⟩) ∧ Below W.heap.size W w' := by
  have HC := Lib.hid (fun W' => sized11 old n W' ho hn)
  obtain ⟨r, hr⟩ : ∃ r : ByteArray, ⟨(padL old.data.toList n).toArray⟩ = r := ⟨_, rfl⟩
  rw [hr] at HC ⊢
  clear hr ho hn
  go_enter Tryd.func37, Tryd.ntmps37
  go_wp2_with fail
  refine (HC.out _).mono ?_
  rintro e w1 ⟨rfl, hb⟩
  have HB := Lib.hid hb
  clear hb
  go_wp2
  go_ret
  exact ⟨rfl, HB.out⟩
attribute [local go_sem ↓] old_ldi old_lds
attribute [local go_sem] oldC_forall isC1_ptr isS1_ptr c1V_ptr
set_option maxRecDepth 10000 in
set_option maxHeartbeats 2000000 in
theorem wclo11 (old s : ByteArray) (n bn bs : Nat) (W : World) (cn : W.cell? ⟨bn, 0, none⟩ = some (.int .i64 (n : Int))) (cs : W.cell? ⟨bs, 0, none⟩ = some (.string s)) (ho : old.size ≤ 1000) (hn : n + s.size ≤ 256) :
    Calls Tryd.prog 29 (#[.string old] ++ #[.pointer (some ⟨bn, 0, none⟩), .pointer (some ⟨bs, 0, none⟩)]) W fun e w' => e = .returned (.string ⟨(wrtL old.data.toList n s.data.toList).toArray⟩) ∧ Below W.heap.size W w' := by
  have HC := Lib.hid (fun W' => sized11 old n W' ho (by omega))
  have H1 : Hid (∀ w0 w', OldC w0 w' → Calls Tryd.prog 30 #[.string old, .int .i64 (n : Int)] w' fun r w'' => r = .returned (.string ⟨(padL old.data.toList n).toArray⟩) ∧ OldC w0 w'') := fun w0 w' hw' => by
    refine (HC.out w').mono ?_
    rintro r w'' ⟨rfl, hb⟩
    exact ⟨rfl, hw'.then hb⟩
  have HS := Lib.hid (Lib.size_eq s)
  have HO := Lib.hid (Lib.size_eq old)
  have hw : IntKind.i64.wrap ((n : Int) + (s.size : Int)) = (n : Int) + (s.size : Int) := IntWalk.i64_in _ (by omega)
  obtain ⟨r, hr⟩ : ∃ r : ByteArray, ⟨(padL old.data.toList n).toArray⟩ = r := ⟨_, rfl⟩
  have HR := Lib.hid (show r.data.toList = padL old.data.toList n by rw [← hr])
  rw [hr] at H1
  have hrs : r.size = n := by rw [Lib.size_eq, HR.out, len_padL]
  have hsum : ¬ 9223372036854775807 < r.size + s.size := by omega
  have HRS := Lib.hid hrs
  clear hr HC hrs
  obtain ⟨m, hm⟩ : ∃ m : Nat, min ((n : Int) + (s.size : Int)) (old.size : Int) = (m : Int) := ⟨min (n + s.size) old.size, by omega⟩
  have hml : m ≤ old.size := by omega
  have hml2 : (m : Int) ≤ (old.size : Int) := by omega
  have hsum2 : ¬ 9223372036854775807 < r.size + s.size + (old.size - m) := by have := HRS.out; omega
  have hm3 : old.data.toList.drop m = old.data.toList.drop (n + s.size) := by
    by_cases h : n + s.size ≤ old.size
    · rw [show m = n + s.size by omega]
    · rw [List.drop_of_length_le (by rw [← HO.out]; omega), List.drop_of_length_le (by rw [← HO.out]; omega)]
  have he : r ++ s ++ old.extract m old.size = ⟨(wrtL old.data.toList n s.data.toList).toArray⟩ := by
    refine ba_ext ?_
    unfold wrtL
    rw [← HS.out, ← hm3, ByteArray.data_append, ByteArray.data_append, Array.toList_append, Array.toList_append, HR.out, Lib.extract_data, List.take_of_length_le (l := old.data.toList.drop m) (by rw [List.length_drop, ← HO.out]; omega)]
  have HEQ := Lib.hid he
  clear he hm3 HR HRS
  go_enter Tryd.func29, Tryd.ntmps29
  go_wp2_with fail
  refine wp_region_old (by kernel_rfl) (by kernel_rfl) ?_
  repeat (go_big_quiet_step ((first | (intro hw; with_reducible exact H1.out _ _ hw))))
  refine wpQuiet_nil ?_
  intro w3 hw3
  have HB3 := Lib.hid (show Below W.heap.size W w3 from hw3)
  clear hw3
  go_wp2
  go_ret
  exact ⟨by rw [← HEQ.out]; rfl, HB3.out⟩
end Go.Proofs.YtgpipljhpkhffaaDoor
