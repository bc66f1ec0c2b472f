/-
  The contract of package fold's Stack. Conditions: a stack in memory, of at most 100 layers, each of at most 1000 entries whose texts have at most 100000 bytes.
-/
import Derived.Test.YtemnlolkmjdefaaGreatDoorS10Spec
import Derived.Test.YtemnlolkmjdefaaGreatDoorS10Laid
import Derived.Test.YtemnlolkmjdefaaGreatDoorPh
namespace Go.Proofs.YtemnlolkmjdefaaGreatDoor
open Go.RowKit

set_option maxRecDepth 10000 in
set_option maxHeartbeats 2000000 in
theorem stack10 (S : List (List Ent)) (a : Option Addr) (cap : Nat) (w : World) (h : Stk w a cap S) (hs : ∀ l ∈ S, Sm l) :
    Calls Tryz.prog 18 #[.slice a S.length cap] w fun e w' => ∃ a' cap', e = .returned (.slice a' (stV S).length cap') ∧ Ents w' a' cap' (stV S) ∧ Below w.heap.size w w' := by
  have HE := Lib.hid h
  have HS := Lib.hid hs
  clear h hs
  by_cases h9 : S.length ≤ 9
  · have g9 : ¬ (9 : Int) < (S.length : Int) := by omega
    have HL := Lib.hid h9
    go_enter Tryz.func18, Tryz.ntmps18
    go_wp2
    go_loopg [3, 11] S.length (fun g v i wx => ∃ (k : Nat) (a5 : Option Addr) (cap5 : Nat) (o : List Ent), v = .slice a5 o.length cap5 ∧ i = .int .i64 (k : Int) ∧ k + g = S.length ∧ Hid (o = stk (S.take k) ∧ ∀ l ∈ S.take k, RightL l) ∧ Hid (Ents wx a5 cap5 o) ∧ Hid (Below w.heap.size w wx))
    case atStart => exact ⟨0, none, 0, [], rfl, rfl, by omega, ⟨rfl, by simp⟩, ents_nil _ _ _, Below.refl _ _⟩
    case round =>
      obtain ⟨k, a5, cap5, o, rfl, rfl, hk, HO, HEO, HB⟩ := hrel
      by_cases hlt : k < S.length
      · have hlt' : (k : Int) < (S.length : Int) := by omega
        have hw : IntKind.i64.wrap ((k : Int) + 1) = (k : Int) + 1 := IntWalk.i64_in _ (by omega)
        have HTO := Lib.hid (show TR o by rw [HO.out.1]; exact tr_stk HO.out.2)
        have HOL := Lib.hid (show o.length ≤ 1000 by
          have h1 := stk_len HO.out.2
          have := HL.out
          rw [List.length_take] at h1
          rw [HO.out.1]
          omega)
        obtain ⟨b, off, a', cap', rfl, hc, hE⟩ := HE.out.at HB.out hlt
        have HX := Lib.hid (HS.out _ (List.getElem_mem hlt))
        have HMX := Lib.hid (List.getElem_mem hlt)
        have HN := Lib.hid (take_get S k hlt)
        obtain ⟨x, hx⟩ : ∃ x, S[k] = x := ⟨_, rfl⟩
        rw [hx] at hc hE HX HN HMX
        have HEx := Lib.hid hE
        clear hx hE
        by_cases hr : RightL x
        · have HRX := Lib.hid hr
          go_wp2_with fail
          refine (right9 x a' cap' _ HEx.out HX.out).mono ?_
          rintro e w1 ⟨rfl, hb⟩
          rw [decide_eq_true hr]
          have HB1 := Lib.hid (HB.out.trans (hb.mono HB.out.size))
          replace HEx := Lib.hid (RowN.below HEx.out hb)
          replace HEO := Lib.hid (RowN.below HEO.out hb)
          clear hb hc hr
          go_wp2_with fail
          refine (laid10 o x a5 cap5 a' cap' _ HEO.out HEx.out HTO.out HRX.out HOL.out).mono ?_
          rintro e w2 ⟨a8, cap8, rfl, h8, hb⟩
          have HB2 := Lib.hid (HB1.out.trans (hb.mono HB1.out.size))
          have HE8 := Lib.hid h8
          have HNN := Lib.hid (show over o x = stk (S.take (k + 1)) ∧ ∀ l ∈ S.take (k + 1), RightL l from ⟨by rw [HN.out, stk_snoc, HO.out.1], fun l hl => by
            rw [HN.out] at hl
            rcases List.mem_append.1 hl with hl | hl
            · exact HO.out.2 l hl
            · obtain rfl : l = x := by simpa using hl
              exact HRX.out⟩)
          clear hb h8
          go_wp2
          go_roundg (gk - 1)
          case measure => omega
          case rel => exact ⟨k + 1, a8, cap8, _, rfl, by simp, by omega, HNN.out, HE8.out, HB2.out⟩
        · have HV := Lib.hid (show stV S = [] by unfold stV; rw [if_neg fun h => hr (h.2 x HMX.out)])
          go_wp2_with fail
          refine (right9 x a' cap' _ HEx.out HX.out).mono ?_
          rintro e w1 ⟨rfl, hb⟩
          rw [decide_eq_false hr]
          have HB1 := Lib.hid (HB.out.trans (hb.mono HB.out.size))
          clear hb hc hr
          go_wp2
          go_ret
          exact ⟨none, 0, by rw [HV.out]; rfl, by rw [HV.out]; exact ents_nil _ _ _, HB1.out⟩
      · have hlt' : ¬ (k : Int) < (S.length : Int) := by omega
        have HV := Lib.hid (show stV S = o by
          have h1 := HO.out
          rw [List.take_of_length_le (by omega)] at h1
          unfold stV
          rw [if_pos ⟨HL.out, h1.2⟩, h1.1])
        go_wp2
        go_ret
        exact ⟨a5, cap5, by rw [HV.out]; rfl, by rw [HV.out]; exact HEO.out, HB.out⟩
  · have g9 : (9 : Int) < (S.length : Int) := by omega
    have HV := Lib.hid (show stV S = [] by unfold stV; rw [if_neg fun h => h9 h.1])
    clear h9
    go_enter Tryz.func18, Tryz.ntmps18
    go_wp2
    go_ret
    exact ⟨none, 0, by rw [HV.out]; rfl, by rw [HV.out]; exact ents_nil _ _ _, Below.refl _ _⟩
end Go.Proofs.YtemnlolkmjdefaaGreatDoor
