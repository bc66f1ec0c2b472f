/-
  Contracts of strings.ContainsFunc over path.Name's closure, and of path.Name: for every text. No condition.
-/
import Derived.Test.YtflomllfehoedaaDoorS3Name
namespace Go.Proofs.YtflomllfehoedaaDoor
open Go.RowKit

set_option maxHeartbeats 2000000 in
set_option maxRecDepth 100000 in
theorem indexFunc_name (s : ByteArray) (w : World) :
    Calls Tryd.prog 88 #[.string s, .func (.func 71) #[] #[], .bool true] w fun e w' => ∃ i : Int, e = .returned (.int .i64 i) ∧ decide (0 ≤ i) = !(s.data.toList.all nb) ∧ Below w.heap.size w w' := by
  go_enter Tryd.func88, Tryd.ntmps88
  go_wp2
  go_loopg [] s.size (fun g wx => ∃ pos : Nat, wx.heap[w.heap.size]? = some (.stringIter s pos) ∧ Hid (Below w.heap.size w wx) ∧ Hid ((s.data.toList.take pos).all nb = true) ∧ pos + g = s.size)
  case atStart => exact ⟨0, World.iter_heap w s 0, (Below.refl _ w).alloc (Nat.le_refl _) _, by simp [Hid], by omega⟩
  case round =>
    obtain ⟨pos, hit, hbw, hall, hfu⟩ := hrel
    have hsz : w.heap.size < wr.heap.size := (Array.getElem?_eq_some_iff.1 hit).1
    by_cases hp : pos < s.size
    · have hnx : ∀ ty, (Instr.next (.pointer (some ⟨w.heap.size, 0, none⟩)) true ty).run Tryd.prog wr = _ := fun ty => Lib.run_next_any_at wr w.heap.size s pos ty hit hp
      have hbig : (rn ((Utf8.decode s pos).1 : Int)) = !nb (s.get! pos) ∧ ((s.get! pos).toNat < 128 → (Utf8.decode s pos).2 = 1) := by
        by_cases h : (s.get! pos).toNat < 128
        · rw [dec_small s pos h]
          exact ⟨rn_nb _, fun _ => rfl⟩
        · exact ⟨by rw [rn_big (by have := (dec_big s pos h).1; omega), nb_big (by omega)]; rfl, fun h' => absurd h' h⟩
      obtain ⟨R, hR⟩ : ∃ R, (Utf8.decode s pos).1 = R := ⟨_, rfl⟩
      obtain ⟨K, hK⟩ : ∃ K, (Utf8.decode s pos).2 = K := ⟨_, rfl⟩
      rw [hR, hK] at hnx hbig
      have hit2 := Lib.iterAt_heap wr w.heap.size s pos (pos + K) hit
      have hbw2 := Lib.below_iterAt hbw.out (k := w.heap.size) (Nat.le_refl _) s (pos + K)
      obtain ⟨W, hWd⟩ : ∃ W, wr.iterAt w.heap.size s (pos + K) = W := ⟨_, rfl⟩
      rw [hWd] at hnx hit2 hbw2
      have HB2 := Lib.hid hbw2
      have HIT := Lib.hid hit2
      have cS := name1 (R : Int) W
      have hfull := get_drop s pos hp
      have HF := Lib.hid hfull
      have HBG := Lib.hid hbig
      clear hfull hbw2 hit2 hbig
      cases hsp : nb (s.get! pos) with
      | true =>
        have hr : rn (R : Int) = false := by rw [HBG.out.1, hsp]; rfl
        have hK1 : K = 1 := HBG.out.2 (by
          rcases Nat.lt_or_ge (s.get! pos).toNat 128 with h | h
          · exact h
          · rw [nb_big h] at hsp; cases hsp)
        rw [hr] at cS
        go_wp2_with fail
        refine cS.mono ?_
        rintro e W' ⟨rfl, rfl⟩
        go_wp2
        go_roundg (gk - 1)
        case measure => omega
        case rel => exact ⟨pos + 1, hK1 ▸ HIT.out, HB2.out, by show _ = true; rw [HF.out, List.all_append, hall.out]; simp [hsp], by omega⟩
      | false =>
        have hr : rn (R : Int) = true := by rw [HBG.out.1, hsp]; rfl
        rw [hr] at cS
        go_wp2_with fail
        refine cS.mono ?_
        rintro e W' ⟨rfl, rfl⟩
        go_wp2
        go_ret
        refine ⟨_, rfl, ?_, HB2.out⟩
        have h0 : s.data.toList.all nb = false := by
          rw [← List.take_append_drop (pos + 1) s.data.toList, HF.out]
          simp [hsp]
        rw [h0]
        simp
    · have hnx : ∀ ty, (Instr.next (.pointer (some ⟨w.heap.size, 0, none⟩)) true ty).run Tryd.prog wr = _ := fun ty => Lib.run_next_end_at wr w.heap.size s pos ty hit hp
      have hpe : pos = s.size := by omega
      go_wp2
      go_ret
      refine ⟨_, rfl, ?_, hbw.out⟩
      have := hall.out
      rw [hpe, Lib.size_eq, List.take_length] at this
      rw [this]
      rfl

end Go.Proofs.YtflomllfehoedaaDoor
