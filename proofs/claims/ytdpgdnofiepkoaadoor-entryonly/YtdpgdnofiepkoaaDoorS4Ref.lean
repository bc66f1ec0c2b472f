/-
  The contract of the document's own Num (package shaleref04): a number's digits. Condition: the number is at most 2^62.
-/
import Derived.Test.YtdpgdnofiepkoaaDoorConv
import Derived.IntWalk
import Derived.Test.YtdpgdnofiepkoaaDoorS4Num
import Derived.Deep.LoopGhost
import Derived.Lib.Strings
namespace Go.Proofs.YtdpgdnofiepkoaaDoor
open Go.RowKit

theorem strOf_one (c : Nat) : (strOfNums [(c : Int)]).data.toList = [UInt8.ofNat c] := by
  simp [strOfNums]
set_option maxRecDepth 10000 in
set_option maxHeartbeats 2000000 in
theorem rnum_any (n : Nat) (hn : n ≤ 4611686018427387904) (w : World) :
    Calls Tryd.prog 30 #[.int .i64 (n : Int)] w fun e w' => e = .returned (.string (numB n)) ∧ Below w.heap.size w w' := by
  have c := conv1
  have HN9 := Lib.hid (dg_nine hn)
  go_enter Tryd.func30, Tryd.ntmps30
  go_wp2
  go_loopg [0, 3] n (fun g a t wr => ∃ (m : Nat) (s : ByteArray), a = .int .i64 (m : Int) ∧ t = .string s ∧ m ≤ 4611686018427387904 ∧ Hid (m = g ∧ s.data.toList ++ dg m = dg n ∧ Below w.heap.size w wr))
  case atStart => exact ⟨n, ⟨#[]⟩, rfl, rfl, hn, rfl, rfl, Below.refl _ _⟩
  case round =>
    obtain ⟨m, s, rfl, rfl, hm, HR⟩ := hrel
    have hs : s.size ≤ 9 := by
      have h3 := congrArg List.length HR.out.2.1
      have h4 := HN9.out
      rw [List.length_append, ← Lib.size_eq] at h3
      omega
    by_cases hlt : m < 128
    · have hlt' : ¬ (127 : Int) < (m : Int) := by omega
      have hw : IntKind.u8.wrap (m : Int) = (m : Int) := by rw [IntKind.wrap_u8]; omega
      have hs1 : (strOfNums [(m : Int)]).size = 1 := by rw [strOfNums_size]; rfl
      have hsum : ¬ 9223372036854775807 < s.size + 1 := by omega
      have HE := Lib.hid (show s ++ strOfNums [(m : Int)] = numB n by
        apply ByteArray.ext
        apply Array.ext'
        rw [ByteArray.data_append, Array.toList_append, strOf_one, numB_list, ← HR.out.2.1, dg_last hlt])
      go_wp2
      go_ret
      exact ⟨by rw [← HE.out]; rfl, HR.out.2.2.alloc HR.out.2.2.size _⟩
    · have hlt' : (127 : Int) < (m : Int) := by omega
      obtain ⟨d, hd⟩ : ∃ d, m % 128 + 128 = d := ⟨_, rfl⟩
      have hd2 : d < 256 := by omega
      obtain ⟨q, hq⟩ : ∃ q, m / 128 = q := ⟨_, rfl⟩
      have hw1 : IntKind.i64.wrap ((m : Int) % 128 + 128) = (d : Int) := by
        rw [show (m : Int) % 128 + 128 = (d : Int) by omega]
        exact IntWalk.i64_in _ (by omega)
      have hw : IntKind.u8.wrap (d : Int) = (d : Int) := by rw [IntKind.wrap_u8]; omega
      have hs1 : (strOfNums [(d : Int)]).size = 1 := by rw [strOfNums_size]; rfl
      have hsum : ¬ 9223372036854775807 < s.size + 1 := by omega
      have hqq : (m : Int) / 128 = (q : Int) := by omega
      have HE := Lib.hid (show (s ++ strOfNums [(d : Int)]).data.toList ++ dg q = dg n by
        rw [ByteArray.data_append, Array.toList_append, strOf_one, ← HR.out.2.1, dg_more hlt, hd, hq, List.append_assoc]
        rfl)
      have HQ := Lib.hid (show q < m ∧ q ≤ 4611686018427387904 by omega)
      clear hd hq
      go_wp2
      go_roundg q
      case measure => have := HR.out.1; have := HQ.out.1; omega
      case rel => exact ⟨q, _, by first | rfl | simp [hqq], rfl, HQ.out.2, rfl, HE.out, HR.out.2.2.alloc HR.out.2.2.size _⟩
end Go.Proofs.YtdpgdnofiepkoaaDoor
