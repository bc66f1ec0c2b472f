/-
  The law AdlerSwaps, walked: for every text and place it returns true and changes nothing that was there. Condition: the text's length is one that Go has.
-/
import Derived.Test.YtiancehhehdgdaaS2One
import Derived.RegionTactic
import Derived.Deep.QuietTactic
import Derived.BigQuiet
import Derived.IntWalk
namespace Go.Proofs.Ytiancehhehdgdaa
open Go.RowKit

theorem set_two (p q : List UInt8) (c d : UInt8) : ((p ++ c :: d :: q).set p.length d).set (p.length + 1) c = p ++ d :: c :: q := by
  rw [List.set_append_right _ _ (Nat.le_refl _), List.set_append_right _ _ (by omega), Nat.sub_self, Nat.add_sub_cancel_left]
  rfl
theorem swap_math (l : List UInt8) (k : Nat) (h : k + 1 < l.length) : (adl ((l.set k l[k + 1]).set (k + 1) l[k]) == adl l) = ((l[k].toNat : Int) == (l[k + 1].toNat : Int)) := by
  have e1 : l.take k ++ l[k] :: l[k + 1] :: l.drop (k + 2) = l := by
    rw [← List.drop_eq_getElem_cons h, ← List.drop_eq_getElem_cons (by omega), List.take_append_drop]
  have hk : (l.take k).length = k := by simp; omega
  have e2 := set_two (l.take k) (l.drop (k + 2)) l[k] l[k + 1]
  rw [e1, hk] at e2
  have e3 := adl_swap (l.take k) (l.drop (k + 2)) l[k] l[k + 1]
  rw [e1, ← e2] at e3
  rw [Bool.eq_iff_iff, beq_iff_eq, beq_iff_eq, e3]
  exact ⟨fun e => by rw [e], fun e => UInt8.toNat_inj.1 (Int.ofNat.inj e)⟩
theorem Held.drew {w : World} {k : Nat} {l : List UInt8} (h : Held w k l) : Held w.drew k l := h
theorem Held.drewN {w : World} {k : Nat} {l : List UInt8} (h : Held w k l) (n : Nat) : Held (w.drewN n) k l := h
theorem below_drewN {B : Nat} {a w : World} (h : Below B a w) (q : Nat) : Below B a (w.drewN q) := ⟨h.os, h.tape, h.output, h.size, h.block⟩

set_option maxHeartbeats 1000000 in
theorem lawSwaps_any (s : ByteArray) (n : Nat) (w : World) (hs : s.size ≤ maxLen) (hn : n < 65536) :
    Calls Try.prog 7 #[.string s, .int .u16 n] w fun e w' => e = .returned (.bool true) ∧ Below w.heap.size w w' := by
  unfold maxLen at hs
  by_cases h1 : 20000 < s.size
  · go_enter Try.func7, Try.ntmps7
    go_wp2_with (refine (awake_any _).mono ?_; rintro e w1 ⟨rfl, rfl⟩)
    go_ret
    exact ⟨rfl, Below.refl _ _⟩
  · by_cases h2 : s.size < 2
    · go_enter Try.func7, Try.ntmps7
      go_wp2_with (refine (awake_any _).mono ?_; rintro e w1 ⟨rfl, rfl⟩)
      go_ret
      exact ⟨rfl, Below.refl _ _⟩
    · have h4 : (2 : Int) ≤ (s.size : Int) := by omega
      obtain ⟨k, hk, hk1⟩ : ∃ k : Nat, (n : Int) % ((s.size : Int) - 1) = (k : Int) ∧ k + 1 < s.size := by
        refine ⟨n % (s.size - 1), ?_, ?_⟩
        · rw [Int.natCast_emod]; congr 1; omega
        · have := Nat.mod_lt n (show 0 < s.size - 1 by omega); omega
      have hl : k + 1 < s.data.toList.length := by rw [bytes_len]; exact hk1
      have hl0 : k < s.data.toList.length := by omega
      obtain ⟨cap, w1, c1, hb, hh⟩ := conv_in s w
      have HQ := Lib.hid (swap_math s.data.toList k hl)
      obtain ⟨hc, hf⟩ := hh.2 _ hl0
      obtain ⟨hd, hg⟩ := hh.2 _ hl
      have HS := Lib.hid (Held.drew ((hh.set k hl0 s.data.toList[k + 1]).set (k + 1) (by simpa using hl) s.data.toList[k]))
      have HB := Lib.hid ((hb.setCell (p := ⟨w.heap.size, k, none⟩) (Nat.le_refl _) (.int .u8 (s.data.toList[k + 1].toNat : Int))).setCell (p := ⟨w.heap.size, k + 1, none⟩) (Nat.le_refl _) (.int .u8 (s.data.toList[k].toNat : Int))).drew
      have hz : (k : Int) + 1 < (s.size : Int) := by omega
      have hz0 : (k : Int) < (s.size : Int) := by omega
      have hz1 : (0 : Int) ≤ (k : Int) + 1 := by omega
      have hz2 : IntKind.i64.wrap ((k : Int) + 1) = (k : Int) + 1 := IntWalk.i64_in _ (by omega)
      have hz3 : ((k : Int) + 1).toNat = k + 1 := by omega
      have i1 : s[k] = s.data.toList[k] := rfl
      have i2 : s[k + 1] = s.data.toList[k + 1] := rfl
      clear hb hh h2
      generalize s.data.toList[k] = x at *
      generalize s.data.toList[k + 1] = y at *
      go_enter Try.func7, Try.ntmps7
      go_wp2_with fail
      refine (awake_any _).mono ?_
      rintro e w1 ⟨rfl, rfl⟩
      go_wp2
      go_region
      generalize ((w1.setCell ⟨w.heap.size, k, none⟩ (.int .u8 (y.toNat : Int))).setCell ⟨w.heap.size, k + 1, none⟩ (.int .u8 (x.toNat : Int))).drew = w2 at *
      have c2 : ∀ m, (convert 28 9 (.slice (some ⟨w.heap.size, 0, none⟩) s.size cap)).run Try.prog (w2.drewN m) = .ok (.string ⟨((s.data.toList.set k y).set (k + 1) x).toArray⟩) (w2.drewN m) := fun m => conv_back _ w.heap.size cap _ s.size (by simp) (HS.out.drewN m)
      have hy : ((s.data.toList.set k y).set (k + 1) x).length ≤ 20000 := by simp; omega
      clear c1 hc hd hf hg
      rw [hk]
      go_wp2
      go_quiet ((go_at_call 10; exact Calls.quiet_of_same ((sum_any _ _ (by unfold maxLen; first | omega | (rw [list_size]; omega))).mono fun _ _ ⟨he, hw⟩ => ⟨he, hw.symm⟩)))
      go_wp2
      go_ret
      exact ⟨ret_bool (by rw [HQ.out]; exact beq_self_eq_true _), below_drewN HB.out _⟩
theorem swaps_end (s : ByteArray) (n : Int) (w : World) (hs : s.size ≤ maxLen) (hn : 0 ≤ n ∧ n ≤ 65535) :
    Calls Try.prog 7 #[.string s, .int .u16 n] w fun e w' => e = .returned (.bool true) ∧ Below w.heap.size w w' := by
  have e1 : n = (n.toNat : Int) := by omega
  rw [e1]
  exact lawSwaps_any s n.toNat w hs (by omega)
end Go.Proofs.Ytiancehhehdgdaa
