/-
  Contracts of the document's own answers for layer 1 (Text, Wrapped): the text of a number, and of wrappings. Conditions: the list lies in memory, has no more than 40 texts, each of at most 2^20 bytes.
-/
import Derived.Test.YtjfjfgahfciflaaDoorErrTxt
import Derived.Test.YtjfjfgahfciflaaDoorS1Wrapped
namespace Go.Proofs.YtjfjfgahfciflaaDoor
open Go.RowKit Go.Extern.Stop Go.Stop Go.Extern

set_option maxRecDepth 100000 in
set_option maxHeartbeats 1000000 in
theorem rtext_any (n : Int) (w : World) :
    Calls Tryd.prog 17 #[.int .i64 n] w fun e w' => e = .returned (.string (errText n)) ∧ Below w.heap.size w w' := by
  have c2 := Tryd.conv2
  have c3 := Tryd.noteSize
  by_cases h : 0 ≤ n ∧ n < 100
  · have HE := Lib.hid (errText_in h.1 h.2)
    obtain ⟨h0, h1⟩ := h
    have h2 : ¬ n < 0 := by omega
    have h3 : ¬ 99 < n := by omega
    go_enter Tryd.func17, Tryd.ntmps17
    go_wp2
    go_ret
    exact ⟨by rw [HE.out]; rfl, (Below.refl _ _).alloc (Nat.le_refl _) _⟩
  · have HE := Lib.hid (errText_out h)
    by_cases h0 : n < 0
    · clear h
      go_enter Tryd.func17, Tryd.ntmps17
      go_wp2
      go_ret
      exact ⟨by rw [HE.out]; rfl, Below.refl _ _⟩
    · have h1 : 99 < n := by omega
      clear h
      go_enter Tryd.func17, Tryd.ntmps17
      go_wp2
      go_ret
      exact ⟨by rw [HE.out]; rfl, Below.refl _ _⟩

theorem chainText_le (n : Int) (S : Nat → ByteArray) : ∀ k, (∀ i, i < 2 * k → (S i).size ≤ 1048576) → (chainText n (wraps S k)).length ≤ 8 + k * 2097155
  | 0, _ => by have := errText_size n; simp [wraps, chainText]; omega
  | k + 1, h => by
    have ih := chainText_le n S k (fun i hi => h i (by omega))
    have h1 := h (2 * k) (by omega)
    have h2 := h (2 * k + 1) (by omega)
    rw [wraps, chainText_cons, List.length_append, len_data, headText_size]
    simp only
    omega
theorem text_step (n : Int) (S : Nat → ByteArray) (k j : Nat) (t : ByteArray) (hj : j = 2 * k) (h : t.data.toList = chainText n (wraps S k)) : (S j ++ ⟨#[32]⟩ ++ S (j + 1) ++ ⟨#[58, 32]⟩ ++ t).data.toList = chainText n (wraps S (k + 1)) := by
  subst hj
  rw [wraps, chainText_cons, ← h]
  simp [headText, ByteArray.data_append]

set_option maxRecDepth 100000 in
set_option maxHeartbeats 1000000 in
theorem rwrapped_any (n : Int) (a : Option Addr) (len cap : Nat) (S : Nat → ByteArray) (w : World) (hlen : len ≤ 40) (hs : Strs w a len S) (hS : ∀ i, i < len → (S i).size ≤ 1048576) :
    Calls Tryd.prog 13 #[.int .i64 n, .slice a len cap] w fun e w' => e = .returned (.string ⟨(chainText n (wraps S (len / 2))).toArray⟩) ∧ Below w.heap.size w w' := by
  have HS := Lib.hid hs
  have HSZ := Lib.hid hS
  clear hs hS
  go_enter Tryd.func13, Tryd.ntmps13
  go_wp2_with fail
  refine (rtext_any n w).mono ?_
  rintro e w1 ⟨rfl, hb⟩
  have HB1 := Lib.hid hb
  clear hb
  go_wp2
  go_loopg [5, 6] (len / 2) (fun g e i wr => ∃ (k j : Nat) (t : ByteArray), Hid (k + g = len / 2 ∧ j = 2 * k) ∧ e = .string t ∧ i = .int .i64 (j : Int) ∧ Hid (t.data.toList = chainText n (wraps S k) ∧ Below w.heap.size w wr))
  case atStart => exact ⟨0, 0, _, ⟨by omega, by omega⟩, rfl, rfl, ⟨rfl, HB1.out⟩⟩
  case round =>
    clear HB1
    obtain ⟨k, j, t, HK, rfl, rfl, HC⟩ := hrel
    have hjb : (j : Int) ≤ 40 := by have := HK.out; omega
    by_cases hlt : j + 1 < len
    · obtain ⟨b, off, rfl, hbl, hc1⟩ := (HS.out.below HC.out.2) j (by omega)
      obtain ⟨b', off', e2, _, hc2⟩ := (HS.out.below HC.out.2) (j + 1) (by omega)
      obtain ⟨rfl, rfl⟩ : b = b' ∧ off = off' := by simpa using e2
      clear e2
      have y1 : (S j).size ≤ 1048576 := HSZ.out j (by omega)
      have y2 : (S (j + 1)).size ≤ 1048576 := HSZ.out (j + 1) hlt
      have y3 : t.size ≤ 41943200 := by
        have h1 := chainText_le n S k (fun i hi => HSZ.out i (by have := HK.out; omega))
        rw [← HC.out.1, len_data] at h1
        have := HK.out
        omega
      have hj : (j : Int) + 1 < (len : Int) := by omega
      have hj0 : (0 : Int) ≤ (j : Int) := by omega
      have hj1 : (j : Int) < (len : Int) := by omega
      have hj2 : (0 : Int) ≤ (j : Int) + 1 := by omega
      have z1 : ¬ 9223372036854775807 < (S j).size + 1 := by omega
      have z2 : ¬ 9223372036854775807 < (S j).size + 1 + (S (j + 1)).size := by omega
      have z3 : ¬ 9223372036854775807 < (S j).size + 1 + (S (j + 1)).size + 2 := by omega
      have z4 : ¬ 9223372036854775807 < (S j).size + 1 + (S (j + 1)).size + 2 + t.size := by omega
      have hw2 : IntKind.i64.wrap ((j : Int) + 1) = (j : Int) + 1 := IntWalk.i64_in _ (by omega)
      have e1 : ((j : Int) + 1).toNat = j + 1 := by omega
      go_wp2_with fail
      go_still_tail 14, (by kernel_rfl)
      change wpList _ _ _ _ _ wr.drew
      have HC2 : Hid (t.data.toList = chainText n (wraps S k) ∧ Below w.heap.size w wr.drew) := ⟨HC.out.1, HC.out.2.drew⟩
      clear hc1 hc2 hbl HC e1 hw2 hj2 z1 z2 z3 z4 y1 y2 y3
      generalize wr.drew = w2 at *
      go_wp2
      go_roundg (gk - 1)
      case measure => have := HK.out; omega
      case rel => exact ⟨k + 1, j + 2, _, ⟨by have := HK.out; omega, by have := HK.out; omega⟩, rfl, by go_num, ⟨text_step n S k j t HK.out.2 HC2.out.1, HC2.out.2⟩⟩
    · have hj : ¬ (j : Int) + 1 < (len : Int) := by omega
      go_wp2
      go_ret
      have hk : k = len / 2 := by have := HK.out; omega
      refine ⟨?_, HC.out.2⟩
      rw [← hk, ← HC.out.1]
      rfl
end Go.Proofs.YtjfjfgahfciflaaDoor
