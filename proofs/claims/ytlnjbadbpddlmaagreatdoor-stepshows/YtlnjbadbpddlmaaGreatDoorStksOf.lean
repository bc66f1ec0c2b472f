/-
  A stack of layers ([][]api.Entry) that is handed in, as a list of lists. No condition.
-/
import Derived.Test.YtlnjbadbpddlmaaGreatDoorEntsOf
import Derived.Test.YtlnjbadbpddlmaaGreatDoorS10Few
namespace Go.Proofs.YtlnjbadbpddlmaaGreatDoor
open Go.ChangeShapes Go.WideShapes Go.ChangeAt Go.RowKit Go.Deep

/-- A layer of a stack, and where it lies. -/
structure LayAt where
  addr : Option Addr
  cap : Nat
  ents : List Ent
def layCell (x : LayAt) : List Value := [.slice x.addr x.ents.length x.cap]
theorem cellsEns : Tryz.prog.cellsOf 23 = 1 := by kernel_rfl
theorem lay_cells {H : Type} {enc9 : TypeId × Value → H} {W : World} {b n : Nat} {cs : List Value} {d : DataW H × List MemPlace} (h : DataW.trod enc9 Tryz.prog W b (fun _ => true) true n 23 cs = some d) : ∃ x : LayAt, Ents W x.addr x.cap x.ents ∧ cs = layCell x := by
  obtain ⟨d1, d2⟩ := d
  rcases open_slice Tryz.underlying23 h with ⟨hcs, _⟩ | ⟨a', len', cap', m, n', D, Pl, hcs, _⟩
  · exact ⟨⟨none, 0, []⟩, ents_nil _ _ _, hcs⟩
  · have hcs' : cs = (Value.slice (some a') len' cap').cells.toList := hcs
    obtain ⟨l, rfl, hE, _⟩ := ents_open (a := some a') (len := len') (cap := cap') (W := W) (b := b) (enc9 := enc9) ⟨n, by rw [← hcs']; exact h⟩
    exact ⟨⟨some a', cap', l⟩, hE, hcs⟩
theorem stks_open {H : Type} {enc9 : TypeId × Value → H} {W : World} {b : Nat} {a : Option Addr} {len cap : Nat} {d : DataW H} {ps : List MemPlace}
    (h : ∃ fuel, DataW.trod enc9 Tryz.prog W b (fun _ => true) true fuel 22 (Value.slice a len cap).cells.toList = some (d, ps)) : ∃ S : List (List Ent), len = S.length ∧ Stk W a cap S ∧ S.length ≤ maxLen := by
  obtain ⟨L, rfl, hr, hok, hm⟩ := rowN_open layCell (fun x : LayAt => Ents W x.addr x.cap x.ents) Tryz.underlying22 cellsEns (by decide) (fun _ _ _ h => lay_cells h) h
  refine ⟨L.map (·.ents), by simp, ⟨by simpa using hr.1, ?_⟩, by simpa using hm⟩
  rcases hr.2 with rfl | ⟨b, off, rfl, hlt, hc⟩
  · exact .inl rfl
  · refine .inr ⟨b, off, rfl, hlt, fun j l hl => ?_⟩
    rw [List.getElem?_map, Option.map_eq_some_iff] at hl
    obtain ⟨x, hx, rfl⟩ := hl
    refine ⟨x.addr, x.cap, ?_, hok x (List.mem_of_getElem? hx)⟩
    have := hc j x hx 0 (.slice x.addr x.ents.length x.cap) rfl
    simpa using this
end Go.Proofs.YtlnjbadbpddlmaaGreatDoor
