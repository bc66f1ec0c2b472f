/-
  The contract of slices.SortFunc at entries, compared by their paths: what the slice held, sorted. Conditions: the slice lies in memory that the call made itself, and holds at most 100000.
-/
import Derived.Test.YtemnlolkmjdefaaGreatDoorS10Cmp
import Derived.Test.YtemnlolkmjdefaaGreatDoorSrtLay
import Derived.Shelf.SlSortCmp.WholeK
import Derived.Shelf.SlSortCmp.NoneTotal
namespace Go.Proofs.YtemnlolkmjdefaaGreatDoor
open Go.RowKit Go.Sort

theorem swo10 : SWO (ltOf cf10) where
  irrefl x := by unfold ltOf cf10; rw [compare_lt]; exact lt8_irr _
  trans x y z h1 h2 := by unfold ltOf cf10 at *; rw [compare_lt] at *; exact lt8_trans h1 h2
  ntrans x y z h1 h2 := by
    unfold ltOf cf10 at *
    rw [compare_lt] at *
    cases h : lt8 (pl x) (pl z) with
    | false => rfl
    | true =>
      rcases lt8_tri (pl x) (pl y) with e | e | e
      · rw [e] at h; rw [h] at h2; cases h2
      · rw [e] at h1; cases h1
      · have := lt8_trans e h; rw [this] at h2; cases h2
theorem holdsK_own {w : World} {l : List Ent} {g : Nat} {cur : Array Value} (hbk : w.heap[g]? = some (.cells cur 41 (0, 0))) (ht : cur.toList.take (l.length * 3) = l.flatMap enc) : HoldsK enc 3 w g 0 l.toArray := by
  intro j hj
  rw [size_flatK, List.size_toArray] at hj
  have h3 : j / 3 < l.length := by omega
  have hm : j % 3 < 3 := by omega
  have h1 := flat_get l (j / 3) (j % 3) hm
  rw [show j / 3 * 3 + j % 3 = j by omega, ← ht, List.getElem?_take_of_lt hj, Array.getElem?_toList, List.getElem?_eq_getElem h3, Option.bind_some] at h1
  obtain ⟨v, hv⟩ : ∃ v, (enc l[j / 3])[j % 3]? = some v := ⟨_, List.getElem?_eq_getElem (show j % 3 < (enc l[j / 3]).length from hm)⟩
  rw [hv] at h1
  refine ⟨?_, ?_⟩
  · rw [Lib.cell_of_heap hbk, Nat.zero_add]
    show cur[j]? = some (id (flatK enc 3 l.toArray)[j]!)
    rw [h1, id, get_flatK enc 3 l.toArray j (by simpa using hj), getElem!_pos l.toArray (j / 3) (by simpa using h3)]
    simp only [List.getElem_toArray]
    rw [List.getElem!_eq_getElem?_getD, hv]
    rfl
  · rw [Nat.zero_add]
    simp [World.frozen?, hbk]
theorem ents_holdsK {w : World} {g cap : Nat} {d : Array Ent} (hH : HoldsK enc 3 w g 0 d) (hg : g < w.heap.size) (hc : d.size ≤ cap) : Ents w (some ⟨g, 0, none⟩) cap d.toList := by
  refine ⟨by simpa using hc, .inr ⟨g, 0, rfl, hg, fun j x hx i v hv => ?_⟩⟩
  obtain ⟨hj, hx⟩ := List.getElem?_eq_some_iff.1 hx
  obtain ⟨hi, hv'⟩ := List.getElem?_eq_some_iff.1 hv
  have h1 := (hH.cell (i := j) (c := i) (by simpa using hj) (by simpa using hi)).1
  rw [h1, getElem!_pos d j (by simpa using hj)]
  rw [Array.getElem_toList] at hx
  rw [hx, List.getElem!_eq_getElem?_getD, hv]
  rfl
theorem below_putRowK {B : Nat} {w : World} {g n : Nat} {d : Array Ent} {os : Array Obj} (hB : B ≤ g) (hBw : B ≤ w.heap.size) : Below B w (sortWorldK enc 3 w g 0 n d os) := by
  refine ⟨rfl, rfl, rfl, ?_, fun k hk => ?_⟩
  · unfold sortWorldK putRowK grow
    simp
  · unfold sortWorldK putRowK
    rw [heap_grow_old _ _ (by simp; omega)]
    unfold putRow mapBlock
    simp only [heap_ahead, Array.getElem?_modify]
    rw [if_neg (by omega)]
set_option maxRecDepth 100000 in
theorem sort10 (B : Nat) (v : Value) (l : List Ent) (w : World) (hown : OwnE w B v l) (hB : B ≤ w.heap.size) (hl : l.length ≤ 100000) :
    Calls Tryz.prog 32 #[v, .func (.func 68) #[] #[]] w fun e w' => e = .returned (.tuple #[]) ∧ ∃ (l' : List Ent) (a : Option Addr) (cap : Nat), v = .slice a l'.length cap ∧ l'.Perm l ∧ l'.Pairwise (fun x y => lt8 (pl y) (pl x) = false) ∧ Ents w' a cap l' ∧ Below B w w' := by
  by_cases h0 : l = []
  · subst h0
    obtain ⟨a, cap, rfl, hE⟩ := ents_of_own hown
    refine (AnyF.slices_SortFunc_none Tryz.sortEnt a cap _ w).mono ?_
    rintro e w' ⟨rfl, rfl⟩
    exact ⟨rfl, [], a, cap, rfl, .refl _, .nil, hE, Below.refl _ _⟩
  · obtain ⟨_, ⟨_, hn⟩ | ⟨g, cap, cur, rfl, hg, hbk, hc, _, _, ht⟩⟩ := hown
    · exact absurd (List.length_eq_zero_iff.1 hn) h0
    · have hH := holdsK_own hbk ht
      have hlt : g < w.heap.size := (Array.getElem?_eq_some_iff.1 hbk).1
      have hS := AnyQ.slices_SortFunc Tryz.sortEnt 3 (by intro w; kernel_rfl) (by intro w; kernel_rfl) enc (fun _ => rfl) (fun x v hv => by simp at hv; rcases hv with rfl | rfl | rfl <;> rfl) cf10 swo10 68 #[] g 0 cap l.toArray w (enters_of Tryz.func68 (by kernel_rfl) rfl) (fun _ _ _ _ x y => sclo10 x y _) hH hlt (by simp; omega)
      rw [List.size_toArray] at hS
      refine Calls.mono hS ?_
      rintro e w' ⟨rfl, d', n, os, ⟨hp1, _, hp3⟩, hs, rfl⟩
      have he : d'.size = l.length := by simpa using hp1
      have e1 : d'.extract 0 l.length = d' := by rw [← he, Array.extract_size]
      have e2 : l.toArray.extract 0 l.length = l.toArray := by
        have h := Array.extract_size (xs := l.toArray)
        rwa [List.size_toArray] at h
      rw [e1, e2] at hp3
      refine ⟨rfl, d'.toList, some ⟨g, 0, none⟩, cap, by simp [he], by simpa using hp3, ?_, ?_, below_putRowK hg hB⟩
      · rw [List.pairwise_iff_getElem]
        intro i j hi hj hij
        have h1 := hs i j (Nat.zero_le _) hij (by rw [← he]; simpa using hj)
        rw [getElem!_pos d' j (by simpa using hj), getElem!_pos d' i (by simpa using hi)] at h1
        unfold ltOf cf10 at h1
        rw [compare_lt] at h1
        simpa using h1
      · refine ents_holdsK ?_ (by unfold sortWorldK putRowK grow; simp; omega) (by rw [he]; exact hc)
        unfold sortWorldK
        exact holdsK_grow enc 3 _ _ _ _ _ (by unfold putRowK; simpa using hlt) (holdsK_putRowK enc 3 _ _ _ _ _ (holdsK_ahead enc 3 w n g 0 _ hH) (by simp [he]))
end Go.Proofs.YtemnlolkmjdefaaGreatDoor
