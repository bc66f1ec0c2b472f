/-
  The law FailTexts, walked: for every number and list of texts it returns true and changes nothing that was there. Conditions: the list lies in memory, its texts are of at most 2^20 bytes each; errorType holds error's type.
-/
import Derived.Test.YtjfjfgahfciflaaDoorS1Ref
import Derived.Test.YtjfjfgahfciflaaDoorS1Codes
import Derived.Test.YtjfjfgahfciflaaDoorTrail2
import Derived.Deep.QuietTactic
import Derived.BigQuiet
import Derived.WalkSmall
namespace Go.Proofs.YtjfjfgahfciflaaDoor
open Go.RowKit Go.Extern.Stop Go.Stop Go.Extern

theorem Strs.of_owns {w : World} {base : Nat} {d : Value} {ss : List ByteArray} (h : w.ownsRow base 9 1 d ss.length (ss.map Value.string)) :
    ∃ a cap, d = .slice a ss.length cap ∧ Strs w a ss.length (fun i => ss.getD i ByteArray.empty) := by
  rcases h.2 with ⟨rfl, h0⟩ | ⟨g, cap, cur, rfl, hg, hh, h1, h2, h3, h4⟩
  · exact ⟨none, 0, by rw [h0], fun i hi => by omega⟩
  · refine ⟨some ⟨g, 0, none⟩, cap, rfl, fun i hi => ⟨g, 0, rfl, ?_, ?_⟩⟩
    · rcases Nat.lt_or_ge g w.heap.size with h' | h'
      · exact h'
      · rw [Array.getElem?_eq_none h'] at hh; cases hh
    · have e1 : w.cell? ⟨g, 0 + i, none⟩ = cur[0 + i]? := by simp [World.cell?, hh]
      rw [e1, Nat.zero_add]
      have e2 := congrArg (fun l : List Value => l[i]?) h4
      simp only [Nat.mul_one, List.getElem?_take, hi, if_true, List.getElem?_map] at e2
      rw [← Array.getElem?_toList, e2, List.getElem?_eq_getElem hi]
      simp [List.getD, List.getElem?_eq_getElem hi]
theorem wraps_get (S : Nat → ByteArray) : ∀ k i, i < k → ((wraps S k).map Prod.fst).getD i ByteArray.empty = S (2 * (k - 1 - i))
  | 0, i, h => by omega
  | k + 1, 0, _ => by simp [wraps]
  | k + 1, i + 1, h => by
    have := wraps_get S k i (by omega)
    rw [show 2 * (k + 1 - 1 - (i + 1)) = 2 * (k - 1 - i) by omega, ← this]
    simp [wraps]

set_option maxHeartbeats 1000000 in
theorem texts_long (n : Int) (a : Option Addr) (len cap : Nat) (w : World) (hg : EtLaid w) (hlen : 40 < len) (hmax : len ≤ maxLen) :
    Calls Tryd.prog 4 #[.int .i64 n, .slice a len cap] w fun e w' => e = .returned (.bool true) ∧ Below w.heap.size w w' := by
  unfold maxLen at hmax
  have HL := Lib.hid hg
  clear hg
  have hl2 : (40 : Int) < (len : Int) := by omega
  go_enter Tryd.func4, Tryd.ntmps4
  go_wp2_with fail
  refine (awake_any _ HL.out).mono ?_
  rintro e w1 ⟨rfl, hb⟩
  have HB1 := Lib.hid hb
  clear hb
  go_wp2_with fail
  refine (awake_any _ (HL.out.below HL.out.lt HB1.out)).mono ?_
  rintro e w2 ⟨rfl, hb⟩
  have HB2 := Lib.hid (HB1.out.trans (hb.mono HB1.out.size))
  clear hb HB1
  go_wp2
  go_ret
  exact ⟨rfl, HB2.out⟩

/-- The text of a chain, asked for. -/
theorem text_call {w : World} {n : Int} {l : List (ByteArray × ByteArray)} {u : TypeId} {y : Value} (h : Chain w n l (.iface u y)) (hlen : (chainText n l).length ≤ 140737488355328) :
    (∃ m, u = 29 ∧ y = .int .i64 m ∧ Calls Tryd.prog 14 #[.int .i64 m] w fun e w' => e = .returned (.string ⟨(chainText n l).toArray⟩) ∧ Below w.heap.size w w') ∨
    (∃ b, u = 41 ∧ y = .pointer (some ⟨b, 0, none⟩) ∧ Calls Tryd.prog 43 #[.pointer (some ⟨b, 0, none⟩)] w fun e w' => e = .returned (.string ⟨(chainText n l).toArray⟩) ∧ Below w.heap.size w w') := by
  cases l with
  | nil =>
    have hv : Value.iface u y = .iface 29 (.int .i64 n) := h
    injection hv with e1 e2
    exact Or.inl ⟨n, e1, e2, errno_any n w⟩
  | cons x r =>
    have h' := h
    obtain ⟨b, v', hv, _⟩ := h'
    injection hv with e1 e2
    subst e1 e2
    exact Or.inr ⟨b, rfl, rfl, ferror_any x r n b w h hlen⟩

set_option maxRecDepth 100000 in
set_option maxHeartbeats 2000000 in
theorem texts_short (n : Int) (a : Option Addr) (len cap : Nat) (S : Nat → ByteArray) (w : World) (hg : EtLaid w) (hs : Strs w a len S) (hlen : len ≤ 40) (hS : ∀ i, i < len → (S i).size ≤ 1048576) :
    Calls Tryd.prog 4 #[.int .i64 n, .slice a len cap] w fun e w' => e = .returned (.bool true) ∧ Below w.heap.size w w' := by
  have HL := Lib.hid hg
  have HS := Lib.hid hs
  have HSZ := Lib.hid hS
  have m1 := Tryd.methodErrorNo
  have m2 := Tryd.methodErrorFa
  clear hg hs hS
  have hl2 : ¬ (40 : Int) < (len : Int) := by omega
  go_enter Tryd.func4, Tryd.ntmps4
  go_wp2_with fail
  refine (awake_any _ HL.out).mono ?_
  rintro e w1 ⟨rfl, hb⟩
  have HB1 := Lib.hid hb
  clear hb
  go_wp2_with fail
  refine (wrapped_any n a len cap S w1 (by omega) (HS.out.below HB1.out)).mono ?_
  rintro e w2 ⟨u, y, rfl, hc, hb⟩
  have HC := Lib.hid hc
  have HB2 := Lib.hid (HB1.out.trans (hb.mono HB1.out.size))
  clear hb HB1 hc
  go_wp2_with fail
  refine (trail_any _ n _ _ HC.out (HL.out.below HL.out.lt HB2.out) (by rw [wraps_length]; omega)).mono ?_
  rintro e w3 ⟨d, rfl, hown, hb⟩
  have hown2 : w3.ownsRow (w2.heap.size + 1) 9 1 d ((wraps S (len / 2)).map Prod.fst).length (((wraps S (len / 2)).map Prod.fst).map Value.string) := by
    simpa [Function.comp_def] using hown
  obtain ⟨a', cap', hd, hst⟩ := Strs.of_owns hown2
  have hK : ((wraps S (len / 2)).map Prod.fst).length = len / 2 := by simp [wraps_length]
  rw [hK] at hd hst
  subst hd
  have HT : Hid (Strs w3 a' (len / 2) (fun i => S (2 * (len / 2 - 1 - i)))) := fun i hi => by
    obtain ⟨b, off, h1, h2, h3⟩ := hst i hi
    exact ⟨b, off, h1, h2, by rw [h3]; simp only [wraps_get S (len / 2) i hi]⟩
  obtain ⟨K, hKd⟩ : ∃ K, K = len / 2 := ⟨_, rfl⟩
  have HKD := Lib.hid hKd
  rw [← hKd] at HT
  have HB3 := Lib.hid (HB2.out.trans (hb.mono HB2.out.size))
  have HC3 := Lib.hid (HC.out.below hb)
  clear hb HB2 HC hown hown2 hst hK
  have hne : ((K : Int) != (len : Int) / 2) = false := by
    have hq : (K : Int) = (len : Int) / 2 := by omega
    simp [hq]
  have hKm : K ≤ 20 := by omega
  rw [← hKd]
  have hl3 : decide ((40 : Int) < (len : Int)) = false := by simpa using hl2
  rw [← hKd] at HC3
  have hL := text_call HC3.out (Nat.le_trans (chainText_le n S K (fun i hi => HSZ.out i (by omega))) (by omega))
  have HW := Lib.hid (fun w4 (hb : Below w3.heap.size w3 w4) => rwrapped_any n a len cap S w4 hlen ((HS.out.below HB3.out).below hb) HSZ.out)
  rw [← hKd] at HW
  clear HC3 HSZ hKd
  rcases hL with ⟨m, rfl, rfl, hcall⟩ | ⟨b0, rfl, rfl, hcall⟩
  all_goals
    have HCALL := Lib.hid hcall
    clear hcall
    go_wp2_with fail
    refine HCALL.out.mono ?_
    rintro e w4 ⟨rfl, hb⟩
    have HB4 := Lib.hid hb
    clear hb HCALL
    go_wp2_with fail
    refine (HW.out w4 HB4.out).mono ?_
    rintro e w5 ⟨rfl, hb⟩
    have HB5 := Lib.hid (HB4.out.trans (hb.mono HB4.out.size))
    clear hb HB4 HW
    generalize (chainText n (wraps S K)).toArray = T at *
    go_wp2
    go_loopg [7] K (fun g i wr => ∃ k : Nat, Hid (k + g = K) ∧ i = .int .i64 (k : Int) ∧ Hid (Below w3.heap.size w3 wr))
    case atStart => exact ⟨0, by show 0 + K = K; omega, rfl, HB5.out⟩
    case round =>
      clear HB5
      obtain ⟨k, HK, rfl, HB⟩ := hrel
      by_cases hlt : k < K
      · obtain ⟨b1, off1, rfl, _, hc1⟩ := (HT.out.below HB.out) k hlt
        obtain ⟨J, hJ⟩ : ∃ J, J = 2 * (K - 1 - k) := ⟨_, rfl⟩
        simp only [← hJ] at hc1
        obtain ⟨b2, off2, rfl, _, hc2⟩ := ((HS.out.below HB3.out).below HB.out) J (by have := HKD.out; omega)
        have k0 : (0 : Int) ≤ (k : Int) := by omega
        have k1 : (k : Int) < (K : Int) := by omega
        have j0 : (0 : Int) ≤ (J : Int) := by omega
        have j1 : (J : Int) < (len : Int) := by have := HKD.out; omega
        have hw1 : IntKind.i64.wrap ((K : Int) - 1) = (K : Int) - 1 := IntWalk.i64_in _ (by omega)
        have hw2 : IntKind.i64.wrap ((K : Int) - 1 - (k : Int)) = (K : Int) - 1 - (k : Int) := IntWalk.i64_in _ (by omega)
        have hw3 : IntKind.i64.wrap (2 * ((K : Int) - 1 - (k : Int))) = (J : Int) := by rw [IntWalk.i64_in _ (by omega)]; omega
        clear hJ
        go_wp2_with fail
        go_quiet (fail)
        clear hw1 hw2 hw3 hc1 hc2
        go_wp2
        go_roundg (gk - 1)
        case measure => have := HK.out; omega
        case rel => exact ⟨k + 1, by have := HK.out; show k + 1 + (gk - 1) = K; omega, by go_num, below_drewN HB.out _⟩
      · have k1 : ¬ (k : Int) < (K : Int) := by omega
        go_wp2
        go_ret
        exact ⟨rfl, HB3.out.trans (HB.out.mono HB3.out.size)⟩
end Go.Proofs.YtjfjfgahfciflaaDoor
