/-
  Package fold's functions answer as Fold10 says. Conditions: those of Fold10.
  What the statements of layer 10 share: the document's example. Condition: package fold answers as Fold10 says.
  The law FoldTrees walked over Fold10: for every stack and list of entries it returns true and changes nothing that was there. Conditions: package fold answers as Fold10 says; both lie in memory.
  An entry (api.Entry) that is handed in: its path, kind and data. No condition.
  A slice of entries ([]api.Entry) that is handed in, as a list. No condition.
  A stack of layers ([][]api.Entry) that is handed in, as a list of lists. No condition.
  Small facts for appends in a region that draws its order: what was there stays, a new block's cells stay. No condition.
-/
import Derived.Test.YtkannambildnoaaPkb4
import Derived.Test.YtkannambildnoaaPka1
import Derived.Test.YtkannambildnoaaKit
import Derived.Deep.Strs
namespace Go.Proofs.Ytkannambildnoaa
open Go.RowKit

set_option maxRecDepth 10000 in
set_option maxHeartbeats 2000000 in
theorem over10 (t l : List Ent) (a : Option Addr) (cap : Nat) (a2 : Option Addr) (cap2 : Nat) (w : World) (ht : Ents w a cap t) (hl : Ents w a2 cap2 l) (hs : Sm t) (hs2 : Sm l) :
    Calls Try.prog 14 #[.slice a t.length cap, .slice a2 l.length cap2] w fun e w' => ∃ a' cap', e = .returned (.slice a' (ovV t l).length cap') ∧ Ents w' a' cap' (ovV t l) ∧ Below w.heap.size w w' := by
  have HT := Lib.hid ht
  have HL := Lib.hid hl
  have HS := Lib.hid hs
  have HS2 := Lib.hid hs2
  have HN := Lib.hid hs.1
  clear ht hl hs hs2
  by_cases h1 : TreeL t
  · by_cases h2 : RightL l
    · have H1 := Lib.hid h1
      have H2 := Lib.hid h2
      clear h1 h2
      go_enter Try.func14, Try.ntmps14
      go_wp2_with fail
      refine (tree10 t a cap _ HT.out HS.out).mono ?_
      rintro e w1 ⟨rfl, hb⟩
      rw [decide_eq_true H1.out]
      have HB1 := Lib.hid hb
      replace HT := Lib.hid (RowN.below HT.out hb)
      replace HL := Lib.hid (RowN.below HL.out hb)
      clear hb
      go_wp2_with fail
      refine (right9 l a2 cap2 _ HL.out HS2.out).mono ?_
      rintro e w2 ⟨rfl, hb⟩
      rw [decide_eq_true H2.out]
      have HB2 := Lib.hid (HB1.out.trans (hb.mono HB1.out.size))
      replace HT := Lib.hid (RowN.below HT.out hb)
      replace HL := Lib.hid (RowN.below HL.out hb)
      clear hb
      go_wp2_with fail
      refine (laid10 t l a cap a2 cap2 _ HT.out HL.out H1.out.2 H2.out HN.out).mono ?_
      rintro e w4 ⟨a', cap', rfl, hE, hb⟩
      have HB4 := Lib.hid (HB2.out.trans (hb.mono HB2.out.size))
      have HE4 := Lib.hid hE
      clear hE hb
      by_cases h3 : (over t l).length ≤ 1024
      · have h3' : ¬ (1024 : Int) < ((over t l).length : Int) := by omega
        have HV := Lib.hid (show ovV t l = over t l by unfold ovV; rw [if_pos ⟨H1.out, H2.out, h3⟩])
        clear h3
        go_wp2
        go_ret
        exact ⟨a', cap', by rw [HV.out]; rfl, by rw [HV.out]; exact HE4.out, HB4.out⟩
      · have h3' : (1024 : Int) < ((over t l).length : Int) := by omega
        have HV := Lib.hid (show ovV t l = [] by unfold ovV; rw [if_neg fun h => h3 h.2.2])
        clear h3
        go_wp2
        go_ret
        exact ⟨none, 0, by rw [HV.out]; rfl, by rw [HV.out]; exact ents_nil _ _ _, HB4.out⟩
    · have HV := Lib.hid (show ovV t l = [] by unfold ovV; rw [if_neg fun h => h2 h.2.1])
      go_enter Try.func14, Try.ntmps14
      go_wp2_with fail
      refine (tree10 t a cap _ HT.out HS.out).mono ?_
      rintro e w1 ⟨rfl, hb⟩
      rw [decide_eq_true h1]
      have HB1 := Lib.hid hb
      replace HT := Lib.hid (RowN.below HT.out hb)
      replace HL := Lib.hid (RowN.below HL.out hb)
      clear hb
      go_wp2_with fail
      refine (right9 l a2 cap2 _ HL.out HS2.out).mono ?_
      rintro e w2 ⟨rfl, hb⟩
      rw [decide_eq_false h2]
      have HB2 := Lib.hid (HB1.out.trans (hb.mono HB1.out.size))
      replace HT := Lib.hid (RowN.below HT.out hb)
      replace HL := Lib.hid (RowN.below HL.out hb)
      clear hb
      go_wp2
      go_ret
      exact ⟨none, 0, by rw [HV.out]; rfl, by rw [HV.out]; exact ents_nil _ _ _, HB2.out⟩
  · have HV := Lib.hid (show ovV t l = [] by unfold ovV; rw [if_neg fun h => h1 h.1])
    go_enter Try.func14, Try.ntmps14
    go_wp2_with fail
    refine (tree10 t a cap _ HT.out HS.out).mono ?_
    rintro e w1 ⟨rfl, hb⟩
    rw [decide_eq_false h1]
    have HB1 := Lib.hid hb
    replace HT := Lib.hid (RowN.below HT.out hb)
    replace HL := Lib.hid (RowN.below HL.out hb)
    clear hb
    go_wp2
    go_ret
    exact ⟨none, 0, by rw [HV.out]; rfl, by rw [HV.out]; exact ents_nil _ _ _, HB1.out⟩
set_option maxRecDepth 10000 in
set_option maxHeartbeats 2000000 in
theorem stack10 (S : List (List Ent)) (a : Option Addr) (cap : Nat) (w : World) (h : Stk w a cap S) (hs : ∀ l ∈ S, Sm l) :
    Calls Try.prog 12 #[.slice a S.length cap] w fun e w' => ∃ a' cap', e = .returned (.slice a' (stV S).length cap') ∧ Ents w' a' cap' (stV S) ∧ Below w.heap.size w w' := by
  have HE := Lib.hid h
  have HS := Lib.hid hs
  clear h hs
  by_cases h9 : S.length ≤ 9
  · have g9 : ¬ (9 : Int) < (S.length : Int) := by omega
    have HL := Lib.hid h9
    go_enter Try.func12, Try.ntmps12
    go_wp2
    go_loopg [3, 11] S.length (fun g v i wx => ∃ (k : Nat) (a5 : Option Addr) (cap5 : Nat) (o : List Ent), v = .slice a5 o.length cap5 ∧ i = .int .i64 (k : Int) ∧ k + g = S.length ∧ Hid (o = stk (S.take k) ∧ ∀ l ∈ S.take k, RightL l) ∧ Hid (Ents wx a5 cap5 o) ∧ Hid (Below w.heap.size w wx))
    case atStart => exact ⟨0, none, 0, [], rfl, rfl, by omega, ⟨rfl, by simp⟩, ents_nil _ _ _, Below.refl _ _⟩
    case round =>
      obtain ⟨k, a5, cap5, o, rfl, rfl, hk, HO, HEO, HB⟩ := hrel
      by_cases hlt : k < S.length
      · have hlt' : (k : Int) < (S.length : Int) := by omega
        have hw : IntKind.i64.wrap ((k : Int) + 1) = (k : Int) + 1 := IntWalk.i64_in _ (by omega)
        have HTO := Lib.hid (show TR o by rw [HO.out.1]; exact tr_stk HO.out.2)
        have HOL := Lib.hid (show o.length ≤ 1000 by
          have h1 := stk_len HO.out.2
          have := HL.out
          rw [List.length_take] at h1
          rw [HO.out.1]
          omega)
        obtain ⟨b, off, a', cap', rfl, hc, hE⟩ := HE.out.at HB.out hlt
        have HX := Lib.hid (HS.out _ (List.getElem_mem hlt))
        have HMX := Lib.hid (List.getElem_mem hlt)
        have HN := Lib.hid (take_get S k hlt)
        obtain ⟨x, hx⟩ : ∃ x, S[k] = x := ⟨_, rfl⟩
        rw [hx] at hc hE HX HN HMX
        have HEx := Lib.hid hE
        clear hx hE
        by_cases hr : RightL x
        · have HRX := Lib.hid hr
          go_wp2_with fail
          refine (right9 x a' cap' _ HEx.out HX.out).mono ?_
          rintro e w1 ⟨rfl, hb⟩
          rw [decide_eq_true hr]
          have HB1 := Lib.hid (HB.out.trans (hb.mono HB.out.size))
          replace HEx := Lib.hid (RowN.below HEx.out hb)
          replace HEO := Lib.hid (RowN.below HEO.out hb)
          clear hb hc hr
          go_wp2_with fail
          refine (laid10 o x a5 cap5 a' cap' _ HEO.out HEx.out HTO.out HRX.out HOL.out).mono ?_
          rintro e w2 ⟨a8, cap8, rfl, h8, hb⟩
          have HB2 := Lib.hid (HB1.out.trans (hb.mono HB1.out.size))
          have HE8 := Lib.hid h8
          have HNN := Lib.hid (show over o x = stk (S.take (k + 1)) ∧ ∀ l ∈ S.take (k + 1), RightL l from ⟨by rw [HN.out, stk_snoc, HO.out.1], fun l hl => by
            rw [HN.out] at hl
            rcases List.mem_append.1 hl with hl | hl
            · exact HO.out.2 l hl
            · obtain rfl : l = x := by simpa using hl
              exact HRX.out⟩)
          clear hb h8
          go_wp2
          go_roundg (gk - 1)
          case measure => omega
          case rel => exact ⟨k + 1, a8, cap8, _, rfl, by simp, by omega, HNN.out, HE8.out, HB2.out⟩
        · have HV := Lib.hid (show stV S = [] by unfold stV; rw [if_neg fun h => hr (h.2 x HMX.out)])
          go_wp2_with fail
          refine (right9 x a' cap' _ HEx.out HX.out).mono ?_
          rintro e w1 ⟨rfl, hb⟩
          rw [decide_eq_false hr]
          have HB1 := Lib.hid (HB.out.trans (hb.mono HB.out.size))
          clear hb hc hr
          go_wp2
          go_ret
          exact ⟨none, 0, by rw [HV.out]; rfl, by rw [HV.out]; exact ents_nil _ _ _, HB1.out⟩
      · have hlt' : ¬ (k : Int) < (S.length : Int) := by omega
        have HV := Lib.hid (show stV S = o by
          have h1 := HO.out
          rw [List.take_of_length_le (by omega)] at h1
          unfold stV
          rw [if_pos ⟨HL.out, h1.2⟩, h1.1])
        go_wp2
        go_ret
        exact ⟨a5, cap5, by rw [HV.out]; rfl, by rw [HV.out]; exact HEO.out, HB.out⟩
  · have g9 : (9 : Int) < (S.length : Int) := by omega
    have HV := Lib.hid (show stV S = [] by unfold stV; rw [if_neg fun h => h9 h.1])
    clear h9
    go_enter Try.func12, Try.ntmps12
    go_wp2
    go_ret
    exact ⟨none, 0, by rw [HV.out]; rfl, by rw [HV.out]; exact ents_nil _ _ _, Below.refl _ _⟩
theorem fold10 : Fold10 where
  right l a cap w _ h hs := right9 l a cap w h hs
  tree l a cap w _ h hs := tree10 l a cap w h hs
  over t l a cap a2 cap2 w _ ht hl hs hs2 := over10 t l a cap a2 cap2 w ht hl hs hs2
  stack S a cap w _ h _ hs := stack10 S a cap w h hs
end Go.Proofs.Ytkannambildnoaa

namespace Go.Proofs.Ytkannambildnoaa
open Go.RowKit

theorem ex10 : stV [[dE ⟨#[47, 97]⟩, (⟨#[47, 97, 47, 98]⟩, 1, ⟨#[]⟩)], [(⟨#[47, 97]⟩, 4, ⟨#[]⟩)]] = [dE ⟨#[47, 97]⟩] := by decide +kernel
theorem ents_block {w : World} {b : Nat} {cs : Array Value} {l : List Ent} {cap : Nat} (h : w.heap[b]? = some (.cells cs 34 (0, 0))) (hc : cs.toList = l.flatMap enc) (hl : l.length ≤ cap) : Ents w (some ⟨b, 0, none⟩) cap l := by
  refine ⟨hl, .inr ⟨b, 0, rfl, (Array.getElem?_eq_some_iff.1 h).1, fun j x hx i v hv => ?_⟩⟩
  have hi : i < 3 := (List.getElem?_eq_some_iff.1 hv).1
  have h1 := flat_get l j i hi
  rw [hx, Option.bind_some, hv, ← hc, Array.getElem?_toList] at h1
  rw [Lib.cell_of_heap h]
  simpa using h1
/-- The example's stack in memory. -/
theorem ex_stk (w : World) : ∃ V, (((((w.alloc (.cells #[.string ⟨#[47, 97]⟩, .int .i64 2, .string ⟨#[]⟩] 34)).alloc (.cells #[.string ⟨#[47, 97, 47, 98]⟩, .int .i64 1, .string ⟨#[]⟩] 34)).alloc (.cells #[.string ⟨#[47, 97]⟩, .int .i64 2, .string ⟨#[]⟩, .string ⟨#[47, 97, 47, 98]⟩, .int .i64 1, .string ⟨#[]⟩] 34)).alloc (.cells #[.string ⟨#[47, 97]⟩, .int .i64 4, .string ⟨#[]⟩] 34)).alloc (.cells #[.slice (some ⟨w.heap.size + 1 + 1, 0, none⟩) 2 2, .slice (some ⟨w.heap.size + 1 + 1 + 1, 0, none⟩) 1 1] 23)) = V ∧ Below w.heap.size w V ∧ EnAt V w.heap.size ⟨#[47, 97]⟩ 2 ⟨#[]⟩ ∧ Stk V (some ⟨w.heap.size + 1 + 1 + 1 + 1, 0, none⟩) 2 [[dE ⟨#[47, 97]⟩, (⟨#[47, 97, 47, 98]⟩, 1, ⟨#[]⟩)], [(⟨#[47, 97]⟩, 4, ⟨#[]⟩)]] := by
  obtain ⟨w1, h1⟩ : ∃ w1, w.alloc (.cells #[.string ⟨#[47, 97]⟩, .int .i64 2, .string ⟨#[]⟩] 34) = w1 := ⟨_, rfl⟩
  rw [h1]
  have s1 : w1.heap.size = w.heap.size + 1 := by rw [← h1]; simp
  have q1_1 : w1.heap[w.heap.size]? = some (.cells #[.string ⟨#[47, 97]⟩, .int .i64 2, .string ⟨#[]⟩] 34) := by rw [← h1]; exact heap_alloc_new _ _
  have d1 : Below w.heap.size w w1 := by rw [← h1]; exact (Below.refl _ _).alloc (by omega) _
  obtain ⟨w2, h2⟩ : ∃ w2, w1.alloc (.cells #[.string ⟨#[47, 97, 47, 98]⟩, .int .i64 1, .string ⟨#[]⟩] 34) = w2 := ⟨_, rfl⟩
  rw [h2]
  have s2 : w2.heap.size = w.heap.size + 2 := by rw [← h2]; simp; omega
  have q1_2 : w2.heap[w.heap.size]? = some (.cells #[.string ⟨#[47, 97]⟩, .int .i64 2, .string ⟨#[]⟩] 34) := by rw [← h2, Below.heap_alloc _ _ _ (by omega)]; exact q1_1
  have q2_2 : w2.heap[w.heap.size + 1]? = some (.cells #[.string ⟨#[47, 97, 47, 98]⟩, .int .i64 1, .string ⟨#[]⟩] 34) := by
    rw [← h2, show w.heap.size + 1 = w1.heap.size by omega]
    exact heap_alloc_new _ _
  have d2 : Below w.heap.size w w2 := by rw [← h2]; exact d1.alloc (by omega) _
  obtain ⟨w3, h3⟩ : ∃ w3, w2.alloc (.cells #[.string ⟨#[47, 97]⟩, .int .i64 2, .string ⟨#[]⟩, .string ⟨#[47, 97, 47, 98]⟩, .int .i64 1, .string ⟨#[]⟩] 34) = w3 := ⟨_, rfl⟩
  rw [h3]
  have s3 : w3.heap.size = w.heap.size + 3 := by rw [← h3]; simp; omega
  have q1_3 : w3.heap[w.heap.size]? = some (.cells #[.string ⟨#[47, 97]⟩, .int .i64 2, .string ⟨#[]⟩] 34) := by rw [← h3, Below.heap_alloc _ _ _ (by omega)]; exact q1_2
  have q2_3 : w3.heap[w.heap.size + 1]? = some (.cells #[.string ⟨#[47, 97, 47, 98]⟩, .int .i64 1, .string ⟨#[]⟩] 34) := by rw [← h3, Below.heap_alloc _ _ _ (by omega)]; exact q2_2
  have q3_3 : w3.heap[w.heap.size + 1 + 1]? = some (.cells #[.string ⟨#[47, 97]⟩, .int .i64 2, .string ⟨#[]⟩, .string ⟨#[47, 97, 47, 98]⟩, .int .i64 1, .string ⟨#[]⟩] 34) := by
    rw [← h3, show w.heap.size + 1 + 1 = w2.heap.size by omega]
    exact heap_alloc_new _ _
  have d3 : Below w.heap.size w w3 := by rw [← h3]; exact d2.alloc (by omega) _
  obtain ⟨w4, h4⟩ : ∃ w4, w3.alloc (.cells #[.string ⟨#[47, 97]⟩, .int .i64 4, .string ⟨#[]⟩] 34) = w4 := ⟨_, rfl⟩
  rw [h4]
  have s4 : w4.heap.size = w.heap.size + 4 := by rw [← h4]; simp; omega
  have q1_4 : w4.heap[w.heap.size]? = some (.cells #[.string ⟨#[47, 97]⟩, .int .i64 2, .string ⟨#[]⟩] 34) := by rw [← h4, Below.heap_alloc _ _ _ (by omega)]; exact q1_3
  have q2_4 : w4.heap[w.heap.size + 1]? = some (.cells #[.string ⟨#[47, 97, 47, 98]⟩, .int .i64 1, .string ⟨#[]⟩] 34) := by rw [← h4, Below.heap_alloc _ _ _ (by omega)]; exact q2_3
  have q3_4 : w4.heap[w.heap.size + 1 + 1]? = some (.cells #[.string ⟨#[47, 97]⟩, .int .i64 2, .string ⟨#[]⟩, .string ⟨#[47, 97, 47, 98]⟩, .int .i64 1, .string ⟨#[]⟩] 34) := by rw [← h4, Below.heap_alloc _ _ _ (by omega)]; exact q3_3
  have q4_4 : w4.heap[w.heap.size + 1 + 1 + 1]? = some (.cells #[.string ⟨#[47, 97]⟩, .int .i64 4, .string ⟨#[]⟩] 34) := by
    rw [← h4, show w.heap.size + 1 + 1 + 1 = w3.heap.size by omega]
    exact heap_alloc_new _ _
  have d4 : Below w.heap.size w w4 := by rw [← h4]; exact d3.alloc (by omega) _
  obtain ⟨w5, h5⟩ : ∃ w5, w4.alloc (.cells #[.slice (some ⟨w.heap.size + 1 + 1, 0, none⟩) 2 2, .slice (some ⟨w.heap.size + 1 + 1 + 1, 0, none⟩) 1 1] 23) = w5 := ⟨_, rfl⟩
  rw [h5]
  have s5 : w5.heap.size = w.heap.size + 5 := by rw [← h5]; simp; omega
  have q1_5 : w5.heap[w.heap.size]? = some (.cells #[.string ⟨#[47, 97]⟩, .int .i64 2, .string ⟨#[]⟩] 34) := by rw [← h5, Below.heap_alloc _ _ _ (by omega)]; exact q1_4
  have q2_5 : w5.heap[w.heap.size + 1]? = some (.cells #[.string ⟨#[47, 97, 47, 98]⟩, .int .i64 1, .string ⟨#[]⟩] 34) := by rw [← h5, Below.heap_alloc _ _ _ (by omega)]; exact q2_4
  have q3_5 : w5.heap[w.heap.size + 1 + 1]? = some (.cells #[.string ⟨#[47, 97]⟩, .int .i64 2, .string ⟨#[]⟩, .string ⟨#[47, 97, 47, 98]⟩, .int .i64 1, .string ⟨#[]⟩] 34) := by rw [← h5, Below.heap_alloc _ _ _ (by omega)]; exact q3_4
  have q4_5 : w5.heap[w.heap.size + 1 + 1 + 1]? = some (.cells #[.string ⟨#[47, 97]⟩, .int .i64 4, .string ⟨#[]⟩] 34) := by rw [← h5, Below.heap_alloc _ _ _ (by omega)]; exact q4_4
  have q5_5 : w5.heap[w.heap.size + 1 + 1 + 1 + 1]? = some (.cells #[.slice (some ⟨w.heap.size + 1 + 1, 0, none⟩) 2 2, .slice (some ⟨w.heap.size + 1 + 1 + 1, 0, none⟩) 1 1] 23) := by
    rw [← h5, show w.heap.size + 1 + 1 + 1 + 1 = w4.heap.size by omega]
    exact heap_alloc_new _ _
  have d5 : Below w.heap.size w w5 := by rw [← h5]; exact d4.alloc (by omega) _
  refine ⟨w5, rfl, d5, q1_5, by simp, .inr ⟨_, 0, rfl, by omega, fun j l hl => ?_⟩⟩
  match j, hl with
  | 0, hl =>
    obtain rfl : [dE ⟨#[47, 97]⟩, ((⟨#[47, 97, 47, 98]⟩, 1, ⟨#[]⟩) : Ent)] = l := by simpa using hl
    exact ⟨_, 2, (cell_of8 q5_5 rfl).1, ents_block q3_5 rfl (by simp)⟩
  | 1, hl =>
    obtain rfl : [((⟨#[47, 97]⟩, 4, ⟨#[]⟩) : Ent)] = l := by simpa using hl
    exact ⟨_, 1, (cell_of8 q5_5 rfl).1, ents_block q4_5 rfl (by simp)⟩
attribute [local go_sem ↓] old_ldi old_lds old_lde3 old_eqen old_neen
attribute [local go_sem] oldC_forall isC1_ptr isS1_ptr c1V_ptr isE3_ptr e3V_ptr isEv_agg evEq_agg eta_ent
set_option maxRecDepth 10000 in
theorem awake10 (L : Fold10) (w : World) (hg : Env w) : Calls Try.prog 9 #[] w fun e w' => e = .returned (.bool true) ∧ Below w.heap.size w w' := by
  have HS0 := Lib.hid (st10_self hg)
  clear hg
  obtain ⟨V, hV, hb, hq, hk⟩ := ex_stk w
  have HS1 := Lib.hid (HS0.out.next hb)
  have HQ := Lib.hid hq
  have HK := Lib.hid (L.stack _ _ _ V HS1.out.env hk (by simp) (fun l hl => by
    rcases List.mem_cons.1 hl with rfl | hl
    · exact ⟨by simp, fun e he => by
        rcases List.mem_cons.1 he with rfl | he
        · exact ⟨by decide, by decide⟩
        · obtain rfl : e = _ := by simpa using he
          exact ⟨by decide, by decide⟩⟩
    · obtain rfl : l = _ := by simpa using hl
      exact ⟨by simp, fun e he => by
        obtain rfl : e = _ := by simpa using he
        exact ⟨by decide, by decide⟩⟩))
  rw [ex10] at HK
  clear hb hq hk
  go_enter Try.func9, Try.ntmps9
  go_wp2_with fail
  refine HK.out.mono ?_
  rintro e w2 ⟨a', cap', rfl, h8, hb⟩
  have HS2 := Lib.hid (HS1.out.next hb)
  replace HQ := Lib.hid (HQ.out.below hb)
  obtain ⟨b, off, rfl, _, hc⟩ := Ents.at h8 (Below.refl _ _) (show 0 < [dE ⟨#[47, 97]⟩].length by simp)
  have c0 := hc.c0
  have c1 := hc.c1
  have c2 := hc.c2
  have e0 := HQ.out.c0
  have e1 := HQ.out.c1
  have e2 := HQ.out.c2
  simp only [List.getElem_cons_zero, dE, Nat.zero_mul, Nat.add_zero] at c0 c1 c2
  clear hb h8 hc hV
  go_wp2_with fail
  refine wp_region_old (by kernel_rfl) (by kernel_rfl) ?_
  repeat (go_big_quiet_step (fail))
  refine wpQuiet_nil ?_
  intro w3 hb
  have HS3 := Lib.hid (HS2.out.old hb)
  clear hb
  go_wp2
  go_ret
  exact ⟨by first | rfl | simp, HS3.out.below⟩
end Go.Proofs.Ytkannambildnoaa

namespace Go.Proofs.Ytkannambildnoaa
open Go.RowKit

theorem few_sm {S : List (List Ent)} (h : FewOK S) : S.length ≤ 100 ∧ ∀ l ∈ S, Sm l := ⟨by have := h.1; omega, fun l hl => sm_size (h.2 l hl)⟩
theorem ov_right {t l : List Ent} (ht : TR t) (h5 : t.length ≤ 640) (hl : RightL l) : ovV t l = over t l := by
  have h1 := over_len l t
  have h2 := hl.1
  exact if_pos ⟨⟨by omega, ht⟩, hl, by omega⟩
theorem ov_bad {t l : List Ent} (hl : ¬ RightL l) : ovV t l = [] := if_neg fun h => hl h.2.1
set_option maxRecDepth 10000 in
set_option maxHeartbeats 4000000 in
theorem lawTrees (L : Fold10) (S : List (List Ent)) (l : List Ent) (a a2 : Option Addr) (cap cap2 : Nat) (W : World) (hg : Env W) (hk : Stk W a cap S) (h : Ents W a2 cap2 l) : Calls Try.prog 3 #[.slice a S.length cap, .slice a2 l.length cap2] W fun e w' => e = .returned (.bool true) ∧ Below W.heap.size W w' := by
  have HS0 := Lib.hid (st10_self hg)
  have HK := Lib.hid hk
  have HE := Lib.hid h
  clear hg hk h
  by_cases hf : FewOK S
  · have hF1 : (if FewOK S then (1 : Int) else 0) = 1 := if_pos hf
    have HSS := Lib.hid (few_sm hf)
    clear hf
    by_cases hz : SizeOK l
    · have hZ1 : (if SizeOK l then (1 : Int) else 0) = 1 := if_pos hz
      have HSm := Lib.hid (sm_size hz)
      clear hz
      have HT := Lib.hid (stV_tree S)
      have HTS := Lib.hid (stV_sm S)
      obtain ⟨t, ht⟩ : ∃ t, stV S = t := ⟨_, rfl⟩
      have HTE := Lib.hid ht
      rw [ht] at HT HTS
      have htr := decide_eq_true (show TreeL t from ⟨by have := HT.out.2; omega, HT.out.1⟩)
      clear ht
      by_cases hr : RightL l
      · have hr1 := decide_eq_true hr
        have HO := Lib.hid (ov_right HT.out.1 (by have := HT.out.2; omega) hr)
        obtain ⟨x, hx⟩ : ∃ x, over t l = x := ⟨_, rfl⟩
        rw [hx] at HO
        have HXT := Lib.hid (show TR x ∧ x.length ≤ 640 by
          rw [← hx]
          have h1 := over_len l t
          have h2 := hr.1
          have h3 := HT.out.2
          exact ⟨tr_over HT.out.1 hr.2, by omega⟩)
        have HXS := Lib.hid (sm_tr HXT.out.1 (by have := HXT.out.2; omega))
        have hxr := decide_eq_true (show TreeL x from ⟨by have := HXT.out.2; omega, HXT.out.1⟩)
        have HO2 := Lib.hid (show ovV x l = x by
          rw [ov_right HXT.out.1 HXT.out.2 hr]
          rw [← hx]
          exact over_twice HT.out.1.1.2.1 hr.2.1 hr.2.2.1)
        clear hr hx
        go_enter Try.func3, Try.ntmps3
        go_wp2_with fail
        refine (awake10 L _ HS0.out.env).mono ?_
        rintro e w1 ⟨rfl, hb⟩
        have HS1 := Lib.hid (HS0.out.next hb)
        replace HK := Lib.hid (HK.out.below hb)
        replace HE := Lib.hid (HE.out.below hb)
        clear hb
        go_wp2_with fail
        refine (few10 S a cap _ HK.out).mono ?_
        rintro e w9 ⟨rfl, rfl⟩
        rw [hF1]
        go_wp2_with fail
        refine (size9 l a2 cap2 _ HE.out).mono ?_
        rintro e w9 ⟨rfl, rfl⟩
        rw [hZ1]
        go_wp2_with fail
        refine (L.stack S a cap _ HS1.out.env HK.out HSS.out.1 HSS.out.2).mono ?_
        rintro e w2 ⟨a3, cap3, rfl, h3, hb⟩
        have HS2 := Lib.hid (HS1.out.next hb)
        replace HE := Lib.hid (HE.out.below hb)
        have HE3 := Lib.hid h3
        clear h3
        clear hb
        rw [HTE.out] at HE3 ⊢
        go_wp2_with fail
        refine (L.tree t a3 cap3 _ HS2.out.env HE3.out HTS.out).mono ?_
        rintro e w3 ⟨rfl, hb⟩
        have HS3 := Lib.hid (HS2.out.next hb)
        replace HE := Lib.hid (HE.out.below hb)
        replace HE3 := Lib.hid (HE3.out.below hb)
        clear hb
        rw [htr]
        go_wp2_with fail
        refine (L.over t l a3 cap3 a2 cap2 _ HS3.out.env HE3.out HE.out HTS.out HSm.out).mono ?_
        rintro e w4 ⟨a4, cap4, rfl, h4, hb⟩
        have HS4 := Lib.hid (HS3.out.next hb)
        replace HE := Lib.hid (HE.out.below hb)
        replace HE3 := Lib.hid (HE3.out.below hb)
        have HE4 := Lib.hid h4
        clear h4
        clear hb
        rw [HO.out] at HE4 ⊢
        go_wp2_with fail
        refine (L.over x l a4 cap4 a2 cap2 _ HS4.out.env HE4.out HE.out HXS.out HSm.out).mono ?_
        rintro e w5 ⟨a5, cap5, rfl, h5, hb⟩
        have HS5 := Lib.hid (HS4.out.next hb)
        replace HE := Lib.hid (HE.out.below hb)
        replace HE3 := Lib.hid (HE3.out.below hb)
        replace HE4 := Lib.hid (HE4.out.below hb)
        have HE5 := Lib.hid h5
        clear h5
        clear hb
        rw [HO2.out] at HE5 ⊢
        go_wp2_with fail
        refine (L.right l a2 cap2 _ HS5.out.env HE.out HSm.out).mono ?_
        rintro e w6 ⟨rfl, hb⟩
        have HS6 := Lib.hid (HS5.out.next hb)
        replace HE3 := Lib.hid (HE3.out.below hb)
        replace HE4 := Lib.hid (HE4.out.below hb)
        replace HE5 := Lib.hid (HE5.out.below hb)
        clear hb
        rw [hr1]
        go_wp2_with fail
        refine (L.tree x a4 cap4 _ HS6.out.env HE4.out HXS.out).mono ?_
        rintro e w7 ⟨rfl, hb⟩
        have HS7 := Lib.hid (HS6.out.next hb)
        replace HE3 := Lib.hid (HE3.out.below hb)
        replace HE4 := Lib.hid (HE4.out.below hb)
        replace HE5 := Lib.hid (HE5.out.below hb)
        clear hb
        rw [hxr]
        go_wp2_with fail
        refine (same9 x x a4 a5 cap4 cap5 _ HE4.out HE5.out (by have := HXT.out.2; unfold maxLen; omega)).mono ?_
        rintro e w8 ⟨rfl, hb⟩
        have HS8 := Lib.hid (HS7.out.next hb)
        replace HE3 := Lib.hid (HE3.out.below hb)
        clear hb
        rw [if_pos rfl]
        by_cases h64 : (64 : Int) < (t.length : Int)
        · go_wp2
          go_ret
          exact ⟨by first | rfl | simp, HS8.out.below⟩
        · have HRT := Lib.hid (show RightL t from ⟨by omega, HT.out.1.1⟩)
          have HO3 := Lib.hid (show ovV [] t = t by rw [ov_right tr_nil (by simp) HRT.out]; exact over_nil HT.out.1)
          go_wp2_with fail
          refine (L.over [] t none 0 a3 cap3 _ HS8.out.env (ents_nil _ _ _) HE3.out sm_nil HTS.out).mono ?_
          rintro e w9 ⟨a6, cap6, rfl, h6, hb⟩
          have HS9 := Lib.hid (HS8.out.next hb)
          replace HE3 := Lib.hid (HE3.out.below hb)
          have HE6 := Lib.hid h6
          clear h6
          clear hb
          rw [HO3.out] at HE6 ⊢
          go_wp2_with fail
          refine (same9 t t a6 a3 cap6 cap3 _ HE6.out HE3.out (by have := HT.out.2; unfold maxLen; omega)).mono ?_
          rintro e w10 ⟨rfl, hb⟩
          have HS10 := Lib.hid (HS9.out.next hb)
          clear hb
          rw [if_pos rfl]
          go_wp2
          go_ret
          exact ⟨by first | rfl | simp, HS10.out.below⟩
      · have hr1 := decide_eq_false hr
        have HO := Lib.hid (ov_bad (t := t) hr)
        have HO2 := Lib.hid (ov_bad (t := ([] : List Ent)) hr)
        clear hr
        go_enter Try.func3, Try.ntmps3
        go_wp2_with fail
        refine (awake10 L _ HS0.out.env).mono ?_
        rintro e w1 ⟨rfl, hb⟩
        have HS1 := Lib.hid (HS0.out.next hb)
        replace HK := Lib.hid (HK.out.below hb)
        replace HE := Lib.hid (HE.out.below hb)
        clear hb
        go_wp2_with fail
        refine (few10 S a cap _ HK.out).mono ?_
        rintro e w9 ⟨rfl, rfl⟩
        rw [hF1]
        go_wp2_with fail
        refine (size9 l a2 cap2 _ HE.out).mono ?_
        rintro e w9 ⟨rfl, rfl⟩
        rw [hZ1]
        go_wp2_with fail
        refine (L.stack S a cap _ HS1.out.env HK.out HSS.out.1 HSS.out.2).mono ?_
        rintro e w2 ⟨a3, cap3, rfl, h3, hb⟩
        have HS2 := Lib.hid (HS1.out.next hb)
        replace HE := Lib.hid (HE.out.below hb)
        have HE3 := Lib.hid h3
        clear h3
        clear hb
        rw [HTE.out] at HE3 ⊢
        go_wp2_with fail
        refine (L.tree t a3 cap3 _ HS2.out.env HE3.out HTS.out).mono ?_
        rintro e w3 ⟨rfl, hb⟩
        have HS3 := Lib.hid (HS2.out.next hb)
        replace HE := Lib.hid (HE.out.below hb)
        replace HE3 := Lib.hid (HE3.out.below hb)
        clear hb
        rw [htr]
        go_wp2_with fail
        refine (L.over t l a3 cap3 a2 cap2 _ HS3.out.env HE3.out HE.out HTS.out HSm.out).mono ?_
        rintro e w4 ⟨a4, cap4, rfl, h4, hb⟩
        have HS4 := Lib.hid (HS3.out.next hb)
        replace HE := Lib.hid (HE.out.below hb)
        have HE4 := Lib.hid h4
        clear h4
        clear hb
        rw [HO.out] at HE4 ⊢
        go_wp2_with fail
        refine (L.over [] l a4 cap4 a2 cap2 _ HS4.out.env HE4.out HE.out sm_nil HSm.out).mono ?_
        rintro e w5 ⟨a5, cap5, rfl, h5, hb⟩
        have HS5 := Lib.hid (HS4.out.next hb)
        replace HE := Lib.hid (HE.out.below hb)
        clear hb
        rw [HO2.out]
        clear h5
        go_wp2_with fail
        refine (L.right l a2 cap2 _ HS5.out.env HE.out HSm.out).mono ?_
        rintro e w6 ⟨rfl, hb⟩
        have HS6 := Lib.hid (HS5.out.next hb)
        clear hb
        rw [hr1]
        go_wp2
        go_ret
        exact ⟨by first | rfl | simp, HS6.out.below⟩
    · have hZ1 : (if SizeOK l then (1 : Int) else 0) = 0 := if_neg hz
      clear hz
      go_enter Try.func3, Try.ntmps3
      go_wp2_with fail
      refine (awake10 L _ HS0.out.env).mono ?_
      rintro e w1 ⟨rfl, hb⟩
      have HS1 := Lib.hid (HS0.out.next hb)
      replace HK := Lib.hid (HK.out.below hb)
      replace HE := Lib.hid (HE.out.below hb)
      clear hb
      go_wp2_with fail
      refine (few10 S a cap _ HK.out).mono ?_
      rintro e w9 ⟨rfl, rfl⟩
      rw [hF1]
      go_wp2_with fail
      refine (size9 l a2 cap2 _ HE.out).mono ?_
      rintro e w9 ⟨rfl, rfl⟩
      rw [hZ1]
      go_wp2_with fail
      refine (awake10 L _ HS1.out.env).mono ?_
      rintro e w2 ⟨rfl, hb⟩
      have HS2 := Lib.hid (HS1.out.next hb)
      clear hb
      go_wp2
      go_ret
      exact ⟨by first | rfl | simp, HS2.out.below⟩
  · have hF1 : (if FewOK S then (1 : Int) else 0) = 0 := if_neg hf
    clear hf
    go_enter Try.func3, Try.ntmps3
    go_wp2_with fail
    refine (awake10 L _ HS0.out.env).mono ?_
    rintro e w1 ⟨rfl, hb⟩
    have HS1 := Lib.hid (HS0.out.next hb)
    replace HK := Lib.hid (HK.out.below hb)
    replace HE := Lib.hid (HE.out.below hb)
    clear hb
    go_wp2_with fail
    refine (few10 S a cap _ HK.out).mono ?_
    rintro e w9 ⟨rfl, rfl⟩
    rw [hF1]
    go_wp2_with fail
    refine (awake10 L _ HS1.out.env).mono ?_
    rintro e w2 ⟨rfl, hb⟩
    have HS2 := Lib.hid (HS1.out.next hb)
    clear hb
    go_wp2
    go_ret
    exact ⟨by first | rfl | simp, HS2.out.below⟩
end Go.Proofs.Ytkannambildnoaa

namespace Go.Proofs.Ytkannambildnoaa
open Go.ChangeShapes Go.WideShapes Go.ChangeAt Go.RowKit

theorem cellsEn : Try.prog.cellsOf 34 = 3 := by kernel_rfl
theorem cellsEnI : Try.prog.cellsOf 3 = 1 := by kernel_rfl
theorem cellsEnS : Try.prog.cellsOf 9 = 1 := by kernel_rfl
set_option maxRecDepth 100000 in
theorem ent_open {H : Type} {enc : TypeId × Value → H} {W : World} {r : Reach} {b0 b : Nat} {v : Value} {d : DataW H} {ps : List MemPlace} (hval : Value.okWide Try.prog W r b0 34 v)
    (h : ∃ fuel, DataW.trod enc Try.prog W b (fun _ => true) true fuel 34 v.cells.toList = some (d, ps)) : ∃ (p : ByteArray) (k : Int) (t : ByteArray), v = entV p k t ∧ p.size ≤ maxLen ∧ t.size ≤ maxLen := by
  obtain ⟨cs, rfl, hcs⟩ := okWide_struct Try.underlying34 hval
  obtain ⟨fuel, hf⟩ := h
  obtain ⟨xs, m, _, _, hcl, hxl, hx⟩ := DataW.trod_struct Try.underlying34 hf
  have hxl : xs.length = 3 := hxl
  have h0 : DataW.trod enc Try.prog W b (fun _ => true) true m 9 ((cs.toList.drop 0).take (Try.prog.cellsOf 9)) = xs[0]? := hx 0 _ rfl
  have h1 : DataW.trod enc Try.prog W b (fun _ => true) true m 3 ((cs.toList.drop 1).take (Try.prog.cellsOf 3)) = xs[1]? := hx 1 _ rfl
  have h2 : DataW.trod enc Try.prog W b (fun _ => true) true m 9 ((cs.toList.drop 2).take (Try.prog.cellsOf 9)) = xs[2]? := hx 2 _ rfl
  rw [cellsEnS] at h0 h2
  rw [cellsEnI] at h1
  rw [cellsEn] at hcs
  rw [List.getElem?_eq_getElem (by omega)] at h0 h1 h2
  obtain ⟨p, e0, _, w0⟩ := DataW.trod_string Try.underlying9 h0
  obtain ⟨k, e1, _, _⟩ := DataW.trod_int Try.underlying3 h1
  obtain ⟨t, e2, _, w2⟩ := DataW.trod_string Try.underlying9 h2
  refine ⟨p, k, t, ?_, w0, w2⟩
  obtain ⟨cl⟩ := cs
  match cl, hcs with
  | [u0, u1, u2], _ =>
    simp at e0 e1 e2
    rw [e0, e1, e2]
end Go.Proofs.Ytkannambildnoaa

namespace Go.Proofs.Ytkannambildnoaa
open Go.ChangeShapes Go.WideShapes Go.ChangeAt Go.RowKit

set_option maxRecDepth 100000 in
theorem ent_cells {H : Type} {enc9 : TypeId × Value → H} {W : World} {b n : Nat} {cs : List Value} {d : DataW H × List MemPlace} (h : DataW.trod enc9 Try.prog W b (fun _ => true) true n 34 cs = some d) : ∃ x : Ent, (x.1.size ≤ maxLen ∧ x.2.2.size ≤ maxLen) ∧ cs = enc x := by
  obtain ⟨xs, m, _, _, hcl, hxl, hx⟩ := DataW.trod_struct Try.underlying34 h
  have hxl : xs.length = 3 := hxl
  have h0 : DataW.trod enc9 Try.prog W b (fun _ => true) true m 9 ((cs.drop 0).take (Try.prog.cellsOf 9)) = xs[0]? := hx 0 _ rfl
  have h1 : DataW.trod enc9 Try.prog W b (fun _ => true) true m 3 ((cs.drop 1).take (Try.prog.cellsOf 3)) = xs[1]? := hx 1 _ rfl
  have h2 : DataW.trod enc9 Try.prog W b (fun _ => true) true m 9 ((cs.drop 2).take (Try.prog.cellsOf 9)) = xs[2]? := hx 2 _ rfl
  rw [cellsEnS] at h0 h2
  rw [cellsEnI] at h1
  rw [cellsEn] at hcl
  rw [List.getElem?_eq_getElem (by omega)] at h0 h1 h2
  obtain ⟨p, e0, _, w0⟩ := DataW.trod_string Try.underlying9 h0
  obtain ⟨k, e1, _, _⟩ := DataW.trod_int Try.underlying3 h1
  obtain ⟨t, e2, _, w2⟩ := DataW.trod_string Try.underlying9 h2
  refine ⟨(p, k, t), ⟨w0, w2⟩, ?_⟩
  match cs, hcl with
  | [u0, u1, u2], _ =>
    have f0 : u0 = .string p := by simpa using e0
    have f1 : u1 = .int .i64 k := by simpa using e1
    have f2 : u2 = .string t := by simpa using e2
    rw [f0, f1, f2]
theorem ents_open {H : Type} {enc9 : TypeId × Value → H} {W : World} {b : Nat} {a : Option Addr} {len cap : Nat} {d : DataW H} {ps : List MemPlace}
    (h : ∃ fuel, DataW.trod enc9 Try.prog W b (fun _ => true) true fuel 23 (Value.slice a len cap).cells.toList = some (d, ps)) : ∃ l : List Ent, len = l.length ∧ Ents W a cap l ∧ (∀ x ∈ l, x.1.size ≤ maxLen ∧ x.2.2.size ≤ maxLen) ∧ l.length ≤ maxLen :=
  rowN_open enc (fun x => x.1.size ≤ maxLen ∧ x.2.2.size ≤ maxLen) Try.underlying23 cellsEn (by decide) (fun _ _ _ h => ent_cells h) h
end Go.Proofs.Ytkannambildnoaa

namespace Go.Proofs.Ytkannambildnoaa
open Go.ChangeShapes Go.WideShapes Go.ChangeAt Go.RowKit Go.Deep

/-- A layer of a stack, and where it lies. -/
structure LayAt where
  addr : Option Addr
  cap : Nat
  ents : List Ent
def layCell (x : LayAt) : List Value := [.slice x.addr x.ents.length x.cap]
theorem cellsEns : Try.prog.cellsOf 23 = 1 := by kernel_rfl
theorem lay_cells {H : Type} {enc9 : TypeId × Value → H} {W : World} {b n : Nat} {cs : List Value} {d : DataW H × List MemPlace} (h : DataW.trod enc9 Try.prog W b (fun _ => true) true n 23 cs = some d) : ∃ x : LayAt, Ents W x.addr x.cap x.ents ∧ cs = layCell x := by
  obtain ⟨d1, d2⟩ := d
  rcases open_slice Try.underlying23 h with ⟨hcs, _⟩ | ⟨a', len', cap', m, n', D, Pl, hcs, _⟩
  · exact ⟨⟨none, 0, []⟩, ents_nil _ _ _, hcs⟩
  · have hcs' : cs = (Value.slice (some a') len' cap').cells.toList := hcs
    obtain ⟨l, rfl, hE, _⟩ := ents_open (a := some a') (len := len') (cap := cap') (W := W) (b := b) (enc9 := enc9) ⟨n, by rw [← hcs']; exact h⟩
    exact ⟨⟨some a', cap', l⟩, hE, hcs⟩
theorem stks_open {H : Type} {enc9 : TypeId × Value → H} {W : World} {b : Nat} {a : Option Addr} {len cap : Nat} {d : DataW H} {ps : List MemPlace}
    (h : ∃ fuel, DataW.trod enc9 Try.prog W b (fun _ => true) true fuel 22 (Value.slice a len cap).cells.toList = some (d, ps)) : ∃ S : List (List Ent), len = S.length ∧ Stk W a cap S ∧ S.length ≤ maxLen := by
  obtain ⟨L, rfl, hr, hok, hm⟩ := rowN_open layCell (fun x : LayAt => Ents W x.addr x.cap x.ents) Try.underlying22 cellsEns (by decide) (fun _ _ _ h => lay_cells h) h
  refine ⟨L.map (·.ents), by simp, ⟨by simpa using hr.1, ?_⟩, by simpa using hm⟩
  rcases hr.2 with rfl | ⟨b, off, rfl, hlt, hc⟩
  · exact .inl rfl
  · refine .inr ⟨b, off, rfl, hlt, fun j l hl => ?_⟩
    rw [List.getElem?_map, Option.map_eq_some_iff] at hl
    obtain ⟨x, hx, rfl⟩ := hl
    refine ⟨x.addr, x.cap, ?_, hok x (List.mem_of_getElem? hx)⟩
    have := hc j x hx 0 (.slice x.addr x.ents.length x.cap) rfl
    simpa using this
end Go.Proofs.Ytkannambildnoaa

namespace Go.Proofs.Ytkannambildnoaa
open Go.RowKit

theorem ownsE_new (w : World) (B N : Nat) (hN : N = w.heap.size) (hB : B ≤ N) (e : TypeId) (size : Nat) : (w.alloc (.cells #[] e)).ownsRow B e size (.slice (some ⟨N, 0, none⟩) 0 0) 0 [] := by
  subst hN
  exact ⟨by simp, .inr ⟨w.heap.size, 0, #[], rfl, hB, heap_alloc_new w _, Nat.le_refl _, by unfold maxLen; omega, by simp, by simp⟩⟩
theorem rngE_drew {w : World} {N : Nat} {cs : List Value} (h : w.rangeAt N 0 cs) : w.drew.rangeAt N 0 cs := h
theorem rngE_alloc {w : World} {N : Nat} {cs : List Value} {o : Obj} (h : w.rangeAt N 0 cs) (hN : N < w.heap.size) : (w.alloc o).rangeAt N 0 cs := fun j v hv => (World.cell?_alloc_past _ _ _ hN).trans (h j v hv)
theorem rngE_new (w : World) (N : Nat) (hN : N = w.heap.size) (cs : List Value) (t : TypeId) : (w.alloc (.cells cs.toArray t)).rangeAt N 0 cs := fun j v hv => by
  rw [World.cell?_alloc_at _ _ _ _ hN, Nat.zero_add]
  simpa using hv
theorem rngE_one (w : World) (N : Nat) (hN : N = w.heap.size) (v : Value) (t : TypeId) : (w.alloc (.cells #[v] t)).rangeAt N 0 [v] := rngE_new w N hN [v] t
theorem grownE_step {w3 W w' : World} {B : Nat} {row : Option Nat} {G : Prop} (h : Below B w3 W) (hg : W.grownBy w' row) (hB : B ≤ W.heap.size) (hr : ∀ k, row = some k → B ≤ k) (k : Below B w3 w' → B ≤ w'.heap.size → G) : G :=
  k (h.grown hg hB hr) (Nat.le_trans hB hg.size)
theorem rngE_step {W w' : World} {row : Option Nat} {N : Nat} {cs : List Value} {G : Prop} (h : W.rangeAt N 0 cs) (hg : W.grownBy w' row) (hN : N < W.heap.size) (hr : some N ≠ row) (k : w'.rangeAt N 0 cs → N < w'.heap.size → G) : G :=
  k (fun j u hu => by
    rw [World.cell?_of_block (w := W) (hg.block N hN hr)]
    exact h j u hu) (Nat.lt_of_lt_of_le hN hg.size)
theorem srcE_some {w : World} {N : Nat} {cs : List Value} {ad : Addr} (e : some (⟨N, 0, none⟩ : Addr) = some ad) (h : w.rangeAt N 0 cs) : ∀ j u, cs[j]? = some u → w.cell? (ad.add j) = some u := by
  cases e
  intro j u hu
  rw [Addr.add_lit]
  exact h j u hu
end Go.Proofs.Ytkannambildnoaa
