/-
  Contracts of strings.HasPrefix, of strings.Cut at a slash, and of strings.LastIndexByte at a slash: for every text. No condition.
-/
import Derived.Test.YtflomllfehoedaaDoorProg
import Derived.Test.YtflomllfehoedaaDoorS3Math
import Derived.WalkKit
import Derived.Lib.Bytealg
import Derived.Lib.Hide
import Derived.Deep.LoopGhost
import Derived.BigQuiet
import Derived.IntWalk
import Derived.RegionTactic
import Derived.RowKitTokens
namespace Go.Proofs.YtflomllfehoedaaDoor
open Go.RowKit

theorem ib_cases : ∀ l : List UInt8, (Lib.indexByte l 47 = -1 ∧ 47 ∉ l) ∨ ∃ i : Nat, Lib.indexByte l 47 = (i : Int) ∧ i < l.length ∧ 47 ∉ l.take i ∧ l = l.take i ++ 47 :: l.drop (i + 1)
  | [] => .inl ⟨rfl, by simp⟩
  | b :: l => by
    by_cases hb : b = 47
    · subst hb
      exact .inr ⟨0, by simp [Lib.indexByte], by simp, by simp, by simp⟩
    · have hb' : (b == 47) = false := by simpa using hb
      rcases ib_cases l with ⟨h1, h2⟩ | ⟨i, h1, h2, h3, h4⟩
      · exact .inl ⟨by simp [Lib.indexByte, hb', h1], by simp [Ne.symm hb, h2]⟩
      · refine .inr ⟨i + 1, ?_, by simpa using h2, by simp [Ne.symm hb, h3], by simpa using h4⟩
        have : ((i : Int) == -1) = false := by simp
        simp [Lib.indexByte, hb', h1, this]

set_option maxRecDepth 10000 in
set_option maxHeartbeats 1000000 in
theorem indexByte47 (s : ByteArray) (w : World) : Calls Tryd.prog 91 #[.string s, .int .u8 47] w fun e w' => e = .returned (.int .i64 (Lib.indexByte s.data.toList 47)) ∧ w = w' := by
  go_enter Tryd.func91, Tryd.ntmps91
  go_wp2
  rw [run_callFunc_extern Tryd.func96 (by kernel_rfl) (by kernel_rfl) (by kernel_rfl) (e := Extern.BytealgIndexByte.indexByte) (by kernel_rfl), Lib.run_indexByteString]
  simp only [Result.andThen]
  rw [Oper.upon_value]
  go_wp2
  go_ret
  exact ⟨rfl, rfl⟩

set_option maxRecDepth 10000 in
set_option maxHeartbeats 2000000 in
theorem index47 (s : ByteArray) (w : World) : Calls Tryd.prog 87 #[.string s, .string ⟨#[47]⟩] w fun e w' => e = .returned (.int .i64 (Lib.indexByte s.data.toList 47)) ∧ w = w' := by
  go_enter Tryd.func87, Tryd.ntmps87
  go_wp2_with (refine (indexByte47 s _).mono ?_; rintro e w' ⟨rfl, rfl⟩)
  · have h : ([(47 : UInt8)] == s.toList) = true := by assumption
    go_ret
    refine ⟨?_, rfl⟩
    have e : s.data.toList = [47] := by rw [← Lib.toList_data]; exact (beq_iff_eq.1 h).symm
    rw [e]
    simp [Lib.indexByte]
  · go_ret
    exact ⟨rfl, rfl⟩

/-- what Cut at a slash gives -/
def CutAt (s x y : ByteArray) (m : Bool) : Prop :=
  (m = false ∧ 47 ∉ s.data.toList ∧ x = s ∧ y = ⟨#[]⟩) ∨ (m = true ∧ 47 ∉ x.data.toList ∧ s.data.toList = x.data.toList ++ 47 :: y.data.toList)

set_option maxRecDepth 10000 in
set_option maxHeartbeats 2000000 in
theorem cut47 (s : ByteArray) (hz : s.size ≤ 9223372036854775807) (w : World) : Calls Tryd.prog 82 #[.string s, .string ⟨#[47]⟩] w fun e w' => ∃ x y m, e = .returned (.tuple #[.string x, .string y, .bool m]) ∧ CutAt s x y m ∧ ∃ n, w' = w.drewN n := by
  rcases ib_cases s.data.toList with ⟨h1, h2⟩ | ⟨i, h1, h2, h3, h4⟩
  · have H2 := Lib.hid h2
    clear h2
    go_enter Tryd.func82, Tryd.ntmps82
    go_wp2_with fail
    refine (index47 s w).mono ?_
    rintro e w' ⟨rfl, rfl⟩
    rw [h1]
    go_wp2
    go_ret3
    exact ⟨_, _, _, rfl, .inl ⟨rfl, H2.out, rfl, rfl⟩, 0, rfl⟩
  · rw [← Lib.size_eq] at h2
    have HC : CutAt s (s.extract 0 i) (s.extract (i + 1) s.size) true := by
      refine .inr ⟨rfl, ?_, ?_⟩
      · rw [Lib.extract_data]; simpa using h3
      · rw [Lib.extract_data, Lib.extract_data, List.take_of_length_le (l := List.drop (i + 1) _) (by rw [List.length_drop, Lib.size_eq]; omega)]
        simpa using h4
    have HC' := Lib.hid HC
    clear HC h3 h4
    have c1 : (0 : Int) ≤ ↑i := by omega
    have c2 : (↑i : Int) ≤ ↑s.size := by omega
    have c3 : (0 : Int) ≤ ↑i + 1 := by omega
    have c4 : (↑i + 1 : Int) ≤ ↑s.size := by omega
    have c5 : IntKind.i64.wrap ((i : Int) + 1) = (i : Int) + 1 := IntWalk.i64_in _ (by omega)
    have c6 : ((i : Int) + 1).toNat = i + 1 := by omega
    clear hz
    go_enter Tryd.func82, Tryd.ntmps82
    go_wp2_with fail
    refine (index47 s w).mono ?_
    rintro e w' ⟨rfl, rfl⟩
    rw [h1]
    go_wp2
    go_region
    go_wp2
    go_ret3
    exact ⟨_, _, _, rfl, HC'.out, 1, rfl⟩

set_option maxRecDepth 10000 in
set_option maxHeartbeats 1000000 in
theorem Cut47 (s : ByteArray) (hz : s.size ≤ 9223372036854775807) (w : World) : Calls Tryd.prog 70 #[.string s, .string ⟨#[47]⟩] w fun e w' => ∃ x y m, e = .returned (.tuple #[.string x, .string y, .bool m]) ∧ CutAt s x y m ∧ ∃ n, w' = w.drewN n := by
  go_enter Tryd.func70, Tryd.ntmps70
  go_wp2_with fail
  refine (cut47 s hz w).mono ?_
  rintro e w' ⟨x, y, m, rfl, hc, n, rfl⟩
  have HC := Lib.hid hc
  clear hc
  go_wp2
  go_ret3
  exact ⟨_, _, _, rfl, HC.out, n, rfl⟩

set_option maxRecDepth 10000 in
set_option maxHeartbeats 1000000 in
theorem hasPrefix_lite (s p : ByteArray) (w : World) : Calls Tryd.prog 66 #[.string s, .string p] w fun e w' => e = .returned (.bool (Lib.hasPrefix s.data.toList p.data.toList)) ∧ w = w' := by
  rw [← Lib.hasPrefix_of_take, ← Lib.size_eq, ← Lib.size_eq]
  go_enter Tryd.func66, Tryd.ntmps66
  go_wp2
  · rename_i h
    go_ret
    refine ⟨?_, rfl⟩
    show Ending.returned (Value.bool ((s.extract 0 p.size).toList == p.toList)) = _
    rw [Lib.extract_toList, Lib.toList_data]
    simp [h]
  · rename_i h
    go_ret
    refine ⟨?_, rfl⟩
    show Ending.returned (Value.bool false) = _
    simp [h]

set_option maxRecDepth 10000 in
set_option maxHeartbeats 1000000 in
theorem hasPrefix_any (s p : ByteArray) (w : World) : Calls Tryd.prog 48 #[.string s, .string p] w fun e w' => e = .returned (.bool (p.data.toList.isPrefixOf s.data.toList)) ∧ w = w' := by
  go_enter Tryd.func48, Tryd.ntmps48
  go_wp2_with fail
  refine (hasPrefix_lite s p w).mono ?_
  rintro e w' ⟨rfl, rfl⟩
  go_wp2
  go_ret
  exact ⟨rfl, rfl⟩

theorem at_eq (s : ByteArray) (i : Nat) (h : i < s.size) : s.data.toList[i]? = some (s[i]'h) := by
  rw [Array.getElem?_toList, Array.getElem?_eq_getElem (by simpa using h)]
  rfl

set_option maxRecDepth 10000 in
set_option maxHeartbeats 1000000 in
theorem lastIndex47 (s : ByteArray) (a b : List UInt8) (hs : s.data.toList = a ++ 47 :: b) (hb : 47 ∉ b) (hz : s.size ≤ 9223372036854775807) (w : World) :
    Calls Tryd.prog 81 #[.string s, .int .u8 47] w fun e w' => e = .returned (.int .i64 (a.length : Int)) ∧ w = w' := by
  have hl : s.size = a.length + 1 + b.length := by rw [Lib.size_eq, hs]; simp; omega
  have hhit : ∀ k, (h : k < s.size) → (((s[k]'h).toNat : Int) == 47) = true → k ≤ a.length := fun k h ht => by
    have h1 := at_eq s k h
    rw [hs] at h1
    rcases Nat.lt_or_ge a.length k with h2 | h2
    · exfalso
      rw [List.getElem?_append_right (by omega), List.getElem?_cons, if_neg (by omega)] at h1
      have hm := List.mem_of_getElem? h1
      have h47 : s[k]'h = 47 := by
        simp at ht
        apply UInt8.toNat_inj.1
        show _ = 47
        omega
      rw [h47] at hm
      exact hb hm
    · exact h2
  have hat : ∀ (h : a.length < s.size), (((s[a.length]'h).toNat : Int) == 47) = true := fun h => by
    have h1 := at_eq s a.length h
    rw [hs, List.getElem?_append_right (by omega)] at h1
    simp at h1
    rw [← h1]
    rfl
  have HH := Lib.hid hhit
  have HA := Lib.hid hat
  have HL := Lib.hid hl
  clear hhit hat hs hl
  go_enter Tryd.func81, Tryd.ntmps81
  go_wp2
  go_loop [5] (fun vi => ∃ k : Nat, k ≤ s.size ∧ a.length < k ∧ vi = .int .i64 ((k : Int) - 1)) (fun vi => (RowKit.intOf vi + 1).toNat)
  case atStart => exact ⟨s.size, Nat.le_refl _, by have := HL.out; omega, rfl⟩
  case round =>
    obtain ⟨k, hk, hk2, rfl⟩ := hrel
    go_wp2
    · have ht : (((s[k - 1]'(by omega)).toNat : Int) == 47) = true := by assumption
      have := HH.out (k - 1) (by omega) ht
      have hk1 : k - 1 = a.length := by omega
      go_ret
      refine ⟨?_, rfl⟩
      refine congrArg (fun n => Ending.returned (.int .i64 n)) ?_
      omega
    · have ht : (((s[k - 1]'(by omega)).toNat : Int) == 47) = false := by assumption
      have hne : k - 1 ≠ a.length := fun e => by
        have := HA.out (by omega)
        simp only [← e] at this
        rw [this] at ht
        cases ht
      go_round
      case rel => exact ⟨k - 1, by omega, by omega, by first | go_num | (congr 1; omega)⟩
      case measure => simp [RowKit.intOf]; omega

set_option maxRecDepth 10000 in
set_option maxHeartbeats 1000000 in
theorem LastIndex47 (s : ByteArray) (a b : List UInt8) (hs : s.data.toList = a ++ 47 :: b) (hb : 47 ∉ b) (hz : s.size ≤ 9223372036854775807) (w : World) :
    Calls Tryd.prog 68 #[.string s, .int .u8 47] w fun e w' => e = .returned (.int .i64 (a.length : Int)) ∧ w = w' := by
  have H := Lib.hid (lastIndex47 s a b hs hb hz w)
  clear hs hb hz
  go_enter Tryd.func68, Tryd.ntmps68
  go_wp2_with fail
  refine H.out.mono ?_
  rintro e w' ⟨rfl, rfl⟩
  go_wp2
  go_ret
  exact ⟨rfl, rfl⟩
end Go.Proofs.YtflomllfehoedaaDoor
