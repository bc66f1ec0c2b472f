/-
  The law FailTrails, walked: for every number, list of texts, op and path it returns true and changes nothing that was there. Conditions: the list lies in memory, the texts are of at most 2^20 bytes each; errorType holds error's type.
-/
import Derived.Test.YtjfjfgahfciflaaDoorS1Texts
namespace Go.Proofs.YtjfjfgahfciflaaDoor
open Go.RowKit Go.Extern.Stop Go.Stop Go.Extern

set_option maxHeartbeats 1000000 in
theorem trails_long (n : Int) (a : Option Addr) (len cap : Nat) (o p : ByteArray) (w : World) (hg : EtLaid w) (hlen : 40 < len) (hmax : len ≤ maxLen) :
    Calls Tryd.prog 5 #[.int .i64 n, .slice a len cap, .string o, .string p] w fun e w' => e = .returned (.bool true) ∧ Below w.heap.size w w' := by
  unfold maxLen at hmax
  have HL := Lib.hid hg
  clear hg
  have hl2 : (40 : Int) < (len : Int) := by omega
  go_enter Tryd.func5, Tryd.ntmps5
  go_wp2_with fail
  refine (awake_any _ HL.out).mono ?_
  rintro e w1 ⟨rfl, hb⟩
  have HB1 := Lib.hid hb
  clear hb
  go_wp2_with fail
  refine (awake_any _ (HL.out.below HL.out.lt HB1.out)).mono ?_
  rintro e w2 ⟨rfl, hb⟩
  have HB2 := Lib.hid (HB1.out.trans (hb.mono HB1.out.size))
  clear hb HB1
  go_wp2
  go_ret
  exact ⟨rfl, HB2.out⟩

/-- What Trail answers, as a list of texts in memory. -/
theorem trail_strs {w w' : World} {l : List (ByteArray × ByteArray)} {e : Ending} (h : TrailPost w l e w') :
    ∃ a cap, e = .returned (.slice a l.length cap) ∧ Strs w' a l.length (fun i => (l.map Prod.fst).getD i ByteArray.empty) ∧ Below w.heap.size w w' := by
  obtain ⟨d, rfl, hown, hb⟩ := h
  have hown2 : w'.ownsRow (w.heap.size + 1) 9 1 d (l.map Prod.fst).length ((l.map Prod.fst).map Value.string) := by simpa [Function.comp_def] using hown
  obtain ⟨a, cap, rfl, hs⟩ := Strs.of_owns hown2
  rw [List.length_map] at hs
  exact ⟨a, cap, by rw [List.length_map], hs, hb⟩

theorem cons_text (n : Int) (o p : ByteArray) (l : List (ByteArray × ByteArray)) : (⟨(chainText n ((o, p) :: l)).toArray⟩ : ByteArray).toList = (o ++ ⟨#[32]⟩ ++ p ++ ⟨#[58, 32]⟩ ++ ⟨(chainText n l).toArray⟩ : ByteArray).toList := by
  rw [ByteArray.toList_eq, ByteArray.toList_eq, chainText_cons]
  simp [headText, ByteArray.data_append]

set_option maxRecDepth 100000 in
set_option maxHeartbeats 2000000 in
theorem trails_short (n : Int) (a : Option Addr) (len cap : Nat) (o p : ByteArray) (S : Nat → ByteArray) (w : World) (hg : EtLaid w) (hs : Strs w a len S) (hlen : len ≤ 40) (hS : ∀ i, i < len → (S i).size ≤ 1048576) (ho : o.size ≤ 1048576) (hp : p.size ≤ 1048576) :
    Calls Tryd.prog 5 #[.int .i64 n, .slice a len cap, .string o, .string p] w fun e w' => e = .returned (.bool true) ∧ Below w.heap.size w w' := by
  have HL := Lib.hid hg
  have HS := Lib.hid hs
  have HSZ := Lib.hid hS
  have m1 := Tryd.methodErrorNo
  have m2 := Tryd.methodErrorFa
  clear hg hs hS
  have hl2 : ¬ (40 : Int) < (len : Int) := by omega
  have hl3 : decide ((40 : Int) < (len : Int)) = false := by simpa using hl2
  obtain ⟨K, hKd⟩ : ∃ K, K = len / 2 := ⟨_, rfl⟩
  have hKm : K ≤ 20 := by omega
  have HT := Lib.hid (chainText_le n S K (fun i hi => HSZ.out i (by omega)))
  go_enter Tryd.func5, Tryd.ntmps5
  go_wp2_with fail
  refine (awake_any _ HL.out).mono ?_
  rintro e w1 ⟨rfl, hb⟩
  have HB1 := Lib.hid hb
  clear hb
  go_wp2_with fail
  refine (wrapped_any n a len cap S w1 (by omega) (HS.out.below HB1.out)).mono ?_
  rintro e w2 ⟨u, y, rfl, hc, hb⟩
  rw [← hKd] at hc
  have HLN : Hid ((wraps S K).length = K) := wraps_length S K
  generalize wraps S K = l at *
  have HC := Lib.hid hc
  have HB2 := Lib.hid (HB1.out.trans (hb.mono HB1.out.size))
  clear hb HB1 hc hKd HS HSZ
  go_wp2_with fail
  refine (at_iface _ _ _ _ _).mono ?_
  rintro e w3 ⟨rfl, hw3⟩
  have HC3 := Lib.hid (HC.out.below (hw3 ▸ ((Below.refl _ _).alloc (Nat.le_refl _) _)))
  have HF3 := Lib.hid (hw3 ▸ chain_at HC.out o p)
  have HB3 := Lib.hid (HB2.out.trans ((show Below w2.heap.size w2 w3 from hw3 ▸ ((Below.refl _ _).alloc (Nat.le_refl _) _)).mono HB2.out.size))
  clear hw3 HC HB2
  go_wp2_with fail
  refine (trail_any l n _ w3 HC3.out (HL.out.below HL.out.lt HB3.out) (by rw [HLN.out]; omega)).mono ?_
  intro e w4 ht
  obtain ⟨a4, cap4, rfl, hst, hb⟩ := trail_strs ht
  rw [HLN.out] at hst
  rw [HLN.out]
  have HA4 := Lib.hid hst
  have HB4 := Lib.hid hb
  have HC4 := Lib.hid (HC3.out.below hb)
  have HF4 := Lib.hid (HF3.out.below hb)
  clear hst hb ht HC3 HF3
  go_wp2_with fail
  refine (trail_any ((o, p) :: l) n _ w4 HF4.out (HL.out.below HL.out.lt (HB3.out.trans (HB4.out.mono HB3.out.size))) (by simp [HLN.out]; omega)).mono ?_
  intro e w5 ht
  obtain ⟨a5, cap5, rfl, hst, hb⟩ := trail_strs ht
  have HB5 := Lib.hid (HB3.out.trans ((HB4.out.mono HB3.out.size).trans (hb.mono (Nat.le_trans HB3.out.size HB4.out.size))))
  have HA5 := Lib.hid (HA4.out.below hb)
  have HC5 := Lib.hid (HC4.out.below hb)
  have HF5 := Lib.hid (HF4.out.below hb)
  rw [List.length_cons, HLN.out] at hst
  rw [List.length_cons, HLN.out]
  have HE5 := Lib.hid hst
  clear hst hb ht HC4 HF4 HA4 HB4 HB3
  have hTF : (chainText n ((o, p) :: l)).length ≤ 140737488355328 := by
    have := HT.out
    rw [chainText_cons, List.length_append, len_data, headText_size]
    simp only
    omega
  have HFE := Lib.hid (ferror_any (o, p) l n w2.heap.size w5 HF5.out hTF)
  have hL := fun w6 (hb : Below w5.heap.size w5 w6) => text_call (HC5.out.below hb) (by have := HT.out; omega)
  have hEq := cons_text n o p l
  have hsz : (chainText n l).length ≤ 100000000 := by have := HT.out; omega
  obtain ⟨b5, off5, rfl, _, hc0⟩ := HE5.out 0 (by omega)
  simp only [List.map_cons, List.getD_cons_zero] at hc0
  have hc0' : w5.cell? ⟨b5, off5, none⟩ = some (.string o) := hc0
  have HEQ := Lib.hid hEq
  have HLL := Lib.hid hL
  clear hEq hL hTF HC5 HF5 HT
  have z1 : ¬ 9223372036854775807 < o.size + 1 := by omega
  have z2 : ¬ 9223372036854775807 < o.size + 1 + p.size := by omega
  have z3 : ¬ 9223372036854775807 < o.size + 1 + p.size + 2 := by omega
  have z4 : ¬ 9223372036854775807 < o.size + 1 + p.size + 2 + (chainText n l).length := by omega
  have hK0 : (0 : Int) < (K : Int) + 1 := by omega
  go_wp2_with fail
  refine HFE.out.mono ?_
  rintro e w6 ⟨rfl, hb⟩
  have HB6 := Lib.hid hb
  have hL := HLL.out w6 hb
  clear hb HFE HLL
  rcases hL with ⟨m, rfl, rfl, hcall⟩ | ⟨b0, rfl, rfl, hcall⟩
  all_goals
    have HCALL := Lib.hid hcall
    clear hcall
    go_wp2_with fail
    refine HCALL.out.mono ?_
    rintro e w7 ⟨rfl, hb⟩
    have HB7 := Lib.hid (HB6.out.trans (hb.mono HB6.out.size))
    clear hb HCALL HB6
    have hq := HEQ.out
    go_wp2_with fail
    clear hq z1 z2 z3 z4 hc0 hc0'
    go_loopg [13] K (fun g i wr => ∃ k : Nat, Hid (k + g = K) ∧ i = .int .i64 (k : Int) ∧ Hid (Below w5.heap.size w5 wr))
    case atStart => exact ⟨0, by show 0 + K = K; omega, rfl, HB7.out⟩
    case round =>
      clear HB7
      obtain ⟨k, HK, rfl, HB⟩ := hrel
      by_cases hlt : k < K
      · obtain ⟨b1, off1, rfl, _, hc1⟩ := (HA5.out.below HB.out) k hlt
        obtain ⟨b2, off2, e2, _, hc2⟩ := (HE5.out.below HB.out) (k + 1) (by omega)
        obtain ⟨rfl, rfl⟩ : b5 = b2 ∧ off5 = off2 := by simpa using e2
        clear e2
        dsimp only at hc1 hc2
        simp only [List.map_cons, List.getD_cons_succ] at hc2
        generalize (l.map Prod.fst).getD k ByteArray.empty = q at *
        have k0 : (0 : Int) ≤ (k : Int) := by omega
        have k1 : (k : Int) < (K : Int) := by omega
        have k2 : (0 : Int) ≤ (k : Int) + 1 := by omega
        have k3 : (k : Int) + 1 < (K : Int) + 1 := by omega
        have hw1 : IntKind.i64.wrap ((k : Int) + 1) = (k : Int) + 1 := IntWalk.i64_in _ (by omega)
        have e1 : ((k : Int) + 1).toNat = k + 1 := by omega
        go_wp2_with fail
        go_quiet (fail)
        clear hw1 hc1 hc2 e1 k2 k3
        go_wp2
        go_roundg (gk - 1)
        case measure => have := HK.out; omega
        case rel => exact ⟨k + 1, by have := HK.out; show k + 1 + (gk - 1) = K; omega, by go_num, below_drewN HB.out _⟩
      · have k1 : ¬ (k : Int) < (K : Int) := by omega
        go_wp2
        go_ret
        exact ⟨rfl, HB5.out.trans (HB.out.mono HB5.out.size)⟩
end Go.Proofs.YtjfjfgahfciflaaDoor
