/-
  A stack of layers in memory ([][]api.Entry), told by a list of lists; the document's own Stack; 'Few' of layer 10's statements. Condition: it lies in memory; Stack: its layers are right, and at most twelve.
-/
import Derived.Test.YtemnlolkmjdefaaGreatDoorS10Over
import Derived.Test.YtemnlolkmjdefaaGreatDoorS10Few
namespace Go.Proofs.YtemnlolkmjdefaaGreatDoor
open Go.RowKit

set_option maxRecDepth 10000 in
set_option maxHeartbeats 1000000 in
theorem refStack10 (S : List (List Ent)) (a : Option Addr) (cap : Nat) (w : World) (h : Stk w a cap S) (h12 : S.length ≤ 12) (hr : ∀ l ∈ S, RightL l) : Calls Tryz.prog 30 #[.slice a S.length cap] w fun e w' => ∃ a' cap', e = .returned (.slice a' (stk S).length cap') ∧ Ents w' a' cap' (stk S) ∧ Below w.heap.size w w' := by
  have HE := Lib.hid h
  have HL := Lib.hid h12
  have HR := Lib.hid hr
  clear h h12 hr
  go_enter Tryz.func30, Tryz.ntmps30
  go_wp2
  go_loopg [3, 4] S.length (fun g v i wx => ∃ (k : Nat) (a5 : Option Addr) (cap5 : Nat) (o : List Ent), v = .slice a5 o.length cap5 ∧ i = .int .i64 (k : Int) ∧ k + g = S.length ∧ Hid (o = stk (S.take k)) ∧ Hid (Ents wx a5 cap5 o) ∧ Hid (Below w.heap.size w wx))
  case atStart => exact ⟨0, none, 0, [], rfl, rfl, by omega, rfl, ents_nil _ _ _, Below.refl _ _⟩
  case round =>
    obtain ⟨k, a5, cap5, o, rfl, rfl, hk, HO, HEO, HB⟩ := hrel
    by_cases hlt : k < S.length
    · have hlt' : (k : Int) < (S.length : Int) := by omega
      have hw : IntKind.i64.wrap ((k : Int) + 1) = (k : Int) + 1 := IntWalk.i64_in _ (by have := HL.out; omega)
      have HRT : Hid (∀ l ∈ S.take k, RightL l) := fun l hl => HR.out l (List.mem_of_mem_take hl)
      have HTO := Lib.hid (show TR o by rw [HO.out]; exact tr_stk HRT.out)
      have HOL := Lib.hid (show o.length ≤ 800 by
        rw [HO.out]
        have h1 := stk_len HRT.out
        have := HL.out
        rw [List.length_take] at h1
        omega)
      obtain ⟨b, off, a', cap', rfl, hc, hE⟩ := HE.out.at HB.out hlt
      have HX := Lib.hid (HR.out _ (List.getElem_mem hlt))
      have HN := Lib.hid (show stk (S.take (k + 1)) = over o S[k] by rw [take_get S k hlt, stk_snoc, ← HO.out])
      obtain ⟨x, hx⟩ : ∃ x, S[k] = x := ⟨_, rfl⟩
      rw [hx] at hc hE HX HN
      have HEx := Lib.hid hE
      clear hx hE
      go_wp2_with fail
      refine (refOver10 o x a5 a' cap5 cap' _ HEO.out HEx.out HTO.out HX.out HOL.out).mono ?_
      rintro e w1 ⟨a8, cap8, rfl, h8, hb⟩
      have HB8 := Lib.hid (HB.out.trans (hb.mono HB.out.size))
      have HE8 := Lib.hid h8
      clear hb h8
      go_wp2
      go_roundg (gk - 1)
      case measure => omega
      case rel => exact ⟨k + 1, a8, cap8, _, rfl, by simp, by omega, HN.out.symm, HE8.out, HB8.out⟩
    · have hlt' : ¬ (k : Int) < (S.length : Int) := by omega
      have HV := Lib.hid (show o = stk S by rw [HO.out, List.take_of_length_le (by omega)])
      go_wp2
      go_ret
      exact ⟨a5, cap5, by rw [← HV.out]; rfl, by rw [← HV.out]; exact HEO.out, HB.out⟩
end Go.Proofs.YtemnlolkmjdefaaGreatDoor
