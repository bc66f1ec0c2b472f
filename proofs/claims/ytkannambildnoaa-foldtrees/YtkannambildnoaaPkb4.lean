/-
  Contracts of strings.Compare, and of the closure by which package fold sorts entries; that it is a strict weak order. No condition.
  The contract of slices.SortFunc at entries, compared by their paths: what the slice held, sorted. Conditions: the slice lies in memory that the call made itself, and holds at most 100000.
  Contracts of package entry's Right, Less and Holds, for every entry. Conditions: as each says.
  Contracts of package fold's plain and shown. Conditions: as each says.
  The contract of package fold's laid: what comes of a right layer that is laid over a tree. Conditions: both lie in memory; a tree of at most 1000 entries.
  Where in a rising list an entry at a path stands or would stand: what stands ahead of it, the entry there, the list with one put there and without it. No condition.
  Contracts of sort.Search with package layer's closure, and of layer.place: where in a rising list an entry at a path stands or would stand, and whether one does. Conditions: the list lies in memory, rises, has at most 1000 entries.
  The contract of layer.housed: whether a right entry lies in the root or in a directory of a rising list. Conditions: the list lies in memory, rises, has at most 1000 entries; the entry is right.
  The contract of layer.Right. Conditions: the list lies in memory, has at most 1000 entries, its texts at most 100000 bytes.
  The contract of package fold's Tree. Conditions: the list lies in memory, has at most 1000 entries, its texts at most 100000 bytes.
-/
import Derived.Test.YtkannambildnoaaPkb3
import Derived.Test.YtkannambildnoaaPka1
import Derived.Lib.Bytealg
import Derived.Sort.Grow
import Derived.Sort.Statements
import Derived.Test.YtkannambildnoaaSrtLay
import Derived.Shelf.SlSortCmp.WholeK
import Derived.Shelf.SlSortCmp.NoneTotal
import Derived.Deep.LoopGhost
import Derived.Lib.Hide
import Derived.IntWalk
import Derived.BigQuiet
import Derived.Laws.Cover1
import Derived.Test.YtkannambildnoaaS3ParG
namespace Go.Proofs.Ytkannambildnoaa
open Go.RowKit

set_option maxHeartbeats 1000000 in
set_option maxRecDepth 100000 in
theorem cmpS10 (a b : ByteArray) (w : World) : Calls Try.prog 47 #[.string a, .string b] w fun e w' => e = .returned (.int .i64 (Lib.compareBytes a.data.toList b.data.toList)) ∧ w = w' := by
  go_enter Try.func47, Try.ntmps47
  go_wp2
  rw [run_callFunc_extern Try.func65 (by kernel_rfl) (by kernel_rfl) (by kernel_rfl) (e := Extern.BytealgCompare.compare) (by kernel_rfl), Lib.run_compareString]
  simp only [Result.andThen]
  rw [Oper.upon_value]
  go_wp2
  go_ret
  exact ⟨rfl, rfl⟩
theorem cmp10 (a b : ByteArray) (w : World) : Calls Try.prog 37 #[.string a, .string b] w fun e w' => e = .returned (.int .i64 (Lib.compareBytes a.data.toList b.data.toList)) ∧ w = w' := by
  obtain ⟨r, hr⟩ : ∃ r, Lib.compareBytes a.data.toList b.data.toList = r := ⟨_, rfl⟩
  have HC := Lib.hid (cmpS10 a b w)
  rw [hr] at HC ⊢
  clear hr
  go_enter Try.func37, Try.ntmps37
  go_wp2_with fail
  refine HC.out.mono ?_
  rintro e w' ⟨rfl, rfl⟩
  go_wp2
  go_ret
  exact ⟨rfl, rfl⟩
/-- How two entries are compared. -/
def cf10 (x y : Ent) : Int := Lib.compareBytes (pl x) (pl y)
theorem compare_lt : ∀ a b : List UInt8, decide (Lib.compareBytes a b < 0) = lt8 a b
  | [], [] => by decide
  | [], _ :: _ => by simp [Lib.compareBytes, lt8, Op.bytesLess]
  | _ :: _, [] => by simp [Lib.compareBytes, lt8, Op.bytesLess]
  | a :: xs, b :: ys => by
    rw [lt8_cons, Lib.compareBytes]
    by_cases h1 : a < b
    · simp [h1]
    · rw [if_neg h1]
      by_cases h2 : b < a
      · rw [if_pos h2]
        have : (a == b) = false := beq_eq_false_iff_ne.2 fun e => by rw [e] at h2; exact absurd h2 (UInt8.lt_irrefl _)
        simp [h1, this]
      · rw [if_neg h2, compare_lt xs ys]
        have : a = b := UInt8.le_antisymm (UInt8.not_lt.1 h2) (UInt8.not_lt.1 h1)
        simp [this]
set_option maxHeartbeats 1000000 in
theorem sclo10 (x y : Ent) (W : World) : Calls Try.prog 36 #[enV x, enV y] W fun e w' => e = .returned (.int .i64 (cf10 x y)) ∧ ∃ q os', w' = Go.Sort.grow (W.drewN q) os' := by
  have HC := Lib.hid (fun W' => cmp10 x.1 y.1 W')
  obtain ⟨r, hr⟩ : ∃ r, cf10 x y = r := ⟨_, rfl⟩
  have HR := Lib.hid hr
  unfold cf10 pl at hr
  rw [hr] at HC
  rw [HR.out]
  clear hr HR
  go_enter Try.func36, Try.ntmps36
  go_wp2_with fail
  refine (HC.out _).mono ?_
  rintro e w' ⟨rfl, rfl⟩
  go_wp2
  go_ret
  exact ⟨rfl, 0, _, by rw [Go.Sort.alloc_eq_grow, Go.Sort.alloc_eq_grow, Go.Sort.grow_grow]; rfl⟩
end Go.Proofs.Ytkannambildnoaa

namespace Go.Proofs.Ytkannambildnoaa
open Go.RowKit Go.Sort

theorem swo10 : SWO (ltOf cf10) where
  irrefl x := by unfold ltOf cf10; rw [compare_lt]; exact lt8_irr _
  trans x y z h1 h2 := by unfold ltOf cf10 at *; rw [compare_lt] at *; exact lt8_trans h1 h2
  ntrans x y z h1 h2 := by
    unfold ltOf cf10 at *
    rw [compare_lt] at *
    cases h : lt8 (pl x) (pl z) with
    | false => rfl
    | true =>
      rcases lt8_tri (pl x) (pl y) with e | e | e
      · rw [e] at h; rw [h] at h2; cases h2
      · rw [e] at h1; cases h1
      · have := lt8_trans e h; rw [this] at h2; cases h2
theorem holdsK_own {w : World} {l : List Ent} {g : Nat} {cur : Array Value} (hbk : w.heap[g]? = some (.cells cur 34 (0, 0))) (ht : cur.toList.take (l.length * 3) = l.flatMap enc) : HoldsK enc 3 w g 0 l.toArray := by
  intro j hj
  rw [size_flatK, List.size_toArray] at hj
  have h3 : j / 3 < l.length := by omega
  have hm : j % 3 < 3 := by omega
  have h1 := flat_get l (j / 3) (j % 3) hm
  rw [show j / 3 * 3 + j % 3 = j by omega, ← ht, List.getElem?_take_of_lt hj, Array.getElem?_toList, List.getElem?_eq_getElem h3, Option.bind_some] at h1
  obtain ⟨v, hv⟩ : ∃ v, (enc l[j / 3])[j % 3]? = some v := ⟨_, List.getElem?_eq_getElem (show j % 3 < (enc l[j / 3]).length from hm)⟩
  rw [hv] at h1
  refine ⟨?_, ?_⟩
  · rw [Lib.cell_of_heap hbk, Nat.zero_add]
    show cur[j]? = some (id (flatK enc 3 l.toArray)[j]!)
    rw [h1, id, get_flatK enc 3 l.toArray j (by simpa using hj), getElem!_pos l.toArray (j / 3) (by simpa using h3)]
    simp only [List.getElem_toArray]
    rw [List.getElem!_eq_getElem?_getD, hv]
    rfl
  · rw [Nat.zero_add]
    simp [World.frozen?, hbk]
theorem ents_holdsK {w : World} {g cap : Nat} {d : Array Ent} (hH : HoldsK enc 3 w g 0 d) (hg : g < w.heap.size) (hc : d.size ≤ cap) : Ents w (some ⟨g, 0, none⟩) cap d.toList := by
  refine ⟨by simpa using hc, .inr ⟨g, 0, rfl, hg, fun j x hx i v hv => ?_⟩⟩
  obtain ⟨hj, hx⟩ := List.getElem?_eq_some_iff.1 hx
  obtain ⟨hi, hv'⟩ := List.getElem?_eq_some_iff.1 hv
  have h1 := (hH.cell (i := j) (c := i) (by simpa using hj) (by simpa using hi)).1
  rw [h1, getElem!_pos d j (by simpa using hj)]
  rw [Array.getElem_toList] at hx
  rw [hx, List.getElem!_eq_getElem?_getD, hv]
  rfl
theorem below_putRowK {B : Nat} {w : World} {g n : Nat} {d : Array Ent} {os : Array Obj} (hB : B ≤ g) (hBw : B ≤ w.heap.size) : Below B w (sortWorldK enc 3 w g 0 n d os) := by
  refine ⟨rfl, rfl, rfl, ?_, fun k hk => ?_⟩
  · unfold sortWorldK putRowK grow
    simp
  · unfold sortWorldK putRowK
    rw [heap_grow_old _ _ (by simp; omega)]
    unfold putRow mapBlock
    simp only [heap_ahead, Array.getElem?_modify]
    rw [if_neg (by omega)]
set_option maxRecDepth 100000 in
theorem sort10 (B : Nat) (v : Value) (l : List Ent) (w : World) (hown : OwnE w B v l) (hB : B ≤ w.heap.size) (hl : l.length ≤ 100000) :
    Calls Try.prog 35 #[v, .func (.func 36) #[] #[]] w fun e w' => e = .returned (.tuple #[]) ∧ ∃ (l' : List Ent) (a : Option Addr) (cap : Nat), v = .slice a l'.length cap ∧ l'.Perm l ∧ l'.Pairwise (fun x y => lt8 (pl y) (pl x) = false) ∧ Ents w' a cap l' ∧ Below B w w' := by
  by_cases h0 : l = []
  · subst h0
    obtain ⟨a, cap, rfl, hE⟩ := ents_of_own hown
    refine (AnyF.slices_SortFunc_none Try.sortEnt a cap _ w).mono ?_
    rintro e w' ⟨rfl, rfl⟩
    exact ⟨rfl, [], a, cap, rfl, .refl _, .nil, hE, Below.refl _ _⟩
  · obtain ⟨_, ⟨_, hn⟩ | ⟨g, cap, cur, rfl, hg, hbk, hc, _, _, ht⟩⟩ := hown
    · exact absurd (List.length_eq_zero_iff.1 hn) h0
    · have hH := holdsK_own hbk ht
      have hlt : g < w.heap.size := (Array.getElem?_eq_some_iff.1 hbk).1
      have hS := AnyQ.slices_SortFunc Try.sortEnt 3 (by intro w; kernel_rfl) (by intro w; kernel_rfl) enc (fun _ => rfl) (fun x v hv => by simp at hv; rcases hv with rfl | rfl | rfl <;> rfl) cf10 swo10 36 #[] g 0 cap l.toArray w (enters_of Try.func36 (by kernel_rfl) rfl) (fun _ _ _ _ x y => sclo10 x y _) hH hlt (by simp; omega)
      rw [List.size_toArray] at hS
      refine Calls.mono hS ?_
      rintro e w' ⟨rfl, d', n, os, ⟨hp1, _, hp3⟩, hs, rfl⟩
      have he : d'.size = l.length := by simpa using hp1
      have e1 : d'.extract 0 l.length = d' := by rw [← he, Array.extract_size]
      have e2 : l.toArray.extract 0 l.length = l.toArray := by
        have h := Array.extract_size (xs := l.toArray)
        rwa [List.size_toArray] at h
      rw [e1, e2] at hp3
      refine ⟨rfl, d'.toList, some ⟨g, 0, none⟩, cap, by simp [he], by simpa using hp3, ?_, ?_, below_putRowK hg hB⟩
      · rw [List.pairwise_iff_getElem]
        intro i j hi hj hij
        have h1 := hs i j (Nat.zero_le _) hij (by rw [← he]; simpa using hj)
        rw [getElem!_pos d' j (by simpa using hj), getElem!_pos d' i (by simpa using hi)] at h1
        unfold ltOf cf10 at h1
        rw [compare_lt] at h1
        simpa using h1
      · refine ents_holdsK ?_ (by unfold sortWorldK putRowK grow; simp; omega) (by rw [he]; exact hc)
        unfold sortWorldK
        exact holdsK_grow enc 3 _ _ _ _ _ (by unfold putRowK; simpa using hlt) (holdsK_putRowK enc 3 _ _ _ _ _ (holdsK_ahead enc 3 w n g 0 _ hH) (by simp [he]))
end Go.Proofs.Ytkannambildnoaa

namespace Go.Proofs.Ytkannambildnoaa
open Go.RowKit

attribute [local go_sem ↓] old_ldi old_lds
attribute [local go_sem] oldC_forall isC1_ptr isS1_ptr c1V_ptr
set_option maxRecDepth 10000 in
set_option maxHeartbeats 1000000 in
theorem right8 (p : ByteArray) (k : Int) (d : ByteArray) (hz : p.size ≤ maxLen) (w : World) : Calls Try.prog 23 #[entV p k d] w fun e w' => e = .returned (.bool (rightE p k d)) ∧ Below w.heap.size w w' := by
  have hb0 : Below w.heap.size w (w.alloc (.cells #[.string p, .int .i64 k, .string d] 34)) := (Below.refl _ _).alloc (Nat.le_refl _) _
  have r0 := enAt_new w p k d
  obtain ⟨W, hW⟩ : ∃ W, w.alloc (.cells #[.string p, .int .i64 k, .string d] 34) = W := ⟨_, rfl⟩
  rw [hW] at hb0 r0
  have c0 := r0.c0
  have HB0 := Lib.hid hb0
  have HR0 := Lib.hid r0
  have HZ := Lib.hid hz
  obtain ⟨n, hn⟩ : ∃ n, dp p.data.toList = n := ⟨_, rfl⟩
  have HN := Lib.hid hn
  have hrE : rightE p k d = (decide (1 ≤ n) && (((k == 1) && decide (d.size ≤ 256)) || (decide (2 ≤ k ∧ k ≤ 4) && decide (d.size = 0)))) := by unfold rightE; rw [hn]
  have HRE := Lib.hid hrE
  clear hb0 r0 hz hn hrE
  have hde : d.size = 0 → d = ByteArray.empty := fun h => ByteArray.size_eq_zero_iff.1 h
  have called : (((k == 1) = true ∧ (d.size : Int) ≤ 256) ∨ ((k == 1) = false ∧ (k == 2) = true ∧ d = ByteArray.empty) ∨ ((k == 1) = false ∧ (k == 2) = false ∧ (k == 3) = true ∧ d = ByteArray.empty) ∨ ((k == 1) = false ∧ (k == 2) = false ∧ (k == 3) = false ∧ (k == 4) = true ∧ d = ByteArray.empty)) ∧ rightE p k d = decide (0 < n) ∨ (((k == 1) = true ∧ ¬ (d.size : Int) ≤ 256) ∨ ((k == 1) = false ∧ (k == 2) = true ∧ ¬ d = ByteArray.empty) ∨ ((k == 1) = false ∧ (k == 2) = false ∧ (k == 3) = true ∧ ¬ d = ByteArray.empty) ∨ ((k == 1) = false ∧ (k == 2) = false ∧ (k == 3) = false ∧ (k == 4) = true ∧ ¬ d = ByteArray.empty) ∨ ((k == 1) = false ∧ (k == 2) = false ∧ (k == 3) = false ∧ (k == 4) = false)) ∧ rightE p k d = false := by
    rw [HRE.out]
    by_cases e1 : k = 1
    · subst e1
      by_cases h : d.size ≤ 256
      · exact .inl ⟨.inl ⟨rfl, by omega⟩, by simp [h]; omega⟩
      · exact .inr ⟨.inl ⟨rfl, by omega⟩, by simp [h]⟩
    · by_cases e2 : k = 2
      · subst e2
        by_cases h : d.size = 0
        · exact .inl ⟨.inr (.inl ⟨rfl, rfl, hde h⟩), by simp [h]; omega⟩
        · exact .inr ⟨.inr (.inl ⟨rfl, rfl, fun e => h (by rw [e]; rfl)⟩), by simp [h]⟩
      · by_cases e3 : k = 3
        · subst e3
          by_cases h : d.size = 0
          · exact .inl ⟨.inr (.inr (.inl ⟨rfl, rfl, rfl, hde h⟩)), by simp [h]; omega⟩
          · exact .inr ⟨.inr (.inr (.inl ⟨rfl, rfl, rfl, fun e => h (by rw [e]; rfl)⟩)), by simp [h]⟩
        · by_cases e4 : k = 4
          · subst e4
            by_cases h : d.size = 0
            · exact .inl ⟨.inr (.inr (.inr ⟨rfl, rfl, rfl, rfl, hde h⟩)), by simp [h]; omega⟩
            · exact .inr ⟨.inr (.inr (.inr (.inl ⟨rfl, rfl, rfl, rfl, fun e => h (by rw [e]; rfl)⟩))), by simp [h]⟩
          · refine .inr ⟨.inr (.inr (.inr (.inr ⟨beq_eq_false_iff_ne.2 e1, beq_eq_false_iff_ne.2 e2, beq_eq_false_iff_ne.2 e3, beq_eq_false_iff_ne.2 e4⟩))), ?_⟩
            rw [beq_eq_false_iff_ne.2 e1, decide_eq_false (show ¬ (2 ≤ k ∧ k ≤ 4) by omega)]
            simp
  clear hde
  have c1 := HR0.out.c1
  have c2 := HR0.out.c2
  rcases called with ⟨h, hv⟩ | ⟨h, hv⟩
  · have HV := Lib.hid hv
    clear hv HRE
    rcases h with ⟨g1, g5⟩ | ⟨g1, g2, rfl⟩ | ⟨g1, g2, g3, rfl⟩ | ⟨g1, g2, g3, g4, rfl⟩
    all_goals
      go_enter Try.func23, Try.ntmps23
      go_wp2_with fail
      refine (deep_any p (by have := HZ.out; unfold maxLen at this; omega) _).mono ?_
      rintro e w1 ⟨rfl, hb1⟩
      rw [HN.out]
      have HB1 := Lib.hid (HB0.out.trans (hb1.mono HB0.out.size))
      clear hb1
      go_wp2
      go_ret
      exact ⟨by rw [HV.out]; first | rfl | (simp; done) | (simp; omega), HB1.out⟩
  · have HV := Lib.hid hv
    clear hv HRE
    rcases h with ⟨g1, g5⟩ | ⟨g1, g2, g5⟩ | ⟨g1, g2, g3, g5⟩ | ⟨g1, g2, g3, g4, g5⟩ | ⟨g1, g2, g3, g4⟩
    all_goals
      go_enter Try.func23, Try.ntmps23
      go_wp2
      go_ret
      exact ⟨by rw [HV.out]; rfl, HB0.out⟩
theorem less8 (p q d f : ByteArray) (k m : Int) (w : World) : Calls Try.prog 25 #[entV p k d, entV q m f] w fun e w' => e = .returned (.bool (Op.bytesLess p.data.toList q.data.toList)) ∧ Below w.heap.size w w' := by
  go_enter Try.func25, Try.ntmps25
  go_wp2
  go_ret
  exact ⟨by simp [Lib.toList_data], ((Below.refl _ _).alloc (Nat.le_refl _) _).alloc (by simp) _⟩
theorem holds8 (p d : ByteArray) (k : Int) (w : World) : Calls Try.prog 27 #[entV p k d] w fun e w' => e = .returned (.bool (k == 2 || k == 4)) ∧ Below w.heap.size w w' := by
  by_cases h2 : k = 2
  · have g : (k == 2) = true := by rw [h2]; rfl
    rw [g, Bool.true_or]
    clear h2
    go_enter Try.func27, Try.ntmps27
    go_wp2
    go_ret
    exact ⟨by simp, (Below.refl _ _).alloc (Nat.le_refl _) _⟩
  · have g : (k == 2) = false := beq_eq_false_iff_ne.2 h2
    rw [g, Bool.false_or]
    clear h2
    go_enter Try.func27, Try.ntmps27
    go_wp2
    go_ret
    exact ⟨by simp, (Below.refl _ _).alloc (Nat.le_refl _) _⟩
end Go.Proofs.Ytkannambildnoaa

namespace Go.Proofs.Ytkannambildnoaa
open Go.RowKit

theorem plain10 (e : Ent) (w : World) : Calls Try.prog 24 #[enV e] w fun r w' => r = .returned (.bool (e.2.1 == 1 || e.2.1 == 2)) ∧ Below w.heap.size w w' := by
  obtain ⟨p, k, d⟩ := e
  by_cases h1 : k = 1
  · have g : (k == 1) = true := by rw [h1]; rfl
    show Calls _ _ _ _ fun r w' => r = .returned (.bool (k == 1 || k == 2)) ∧ _
    rw [g, Bool.true_or]
    clear h1
    go_enter Try.func24, Try.ntmps24
    go_wp2
    go_ret
    exact ⟨by simp, (Below.refl _ _).alloc (Nat.le_refl _) _⟩
  · have g : (k == 1) = false := beq_eq_false_iff_ne.2 h1
    show Calls _ _ _ _ fun r w' => r = .returned (.bool (k == 1 || k == 2)) ∧ _
    rw [g, Bool.false_or]
    clear h1
    go_enter Try.func24, Try.ntmps24
    go_wp2
    go_ret
    exact ⟨by simp, (Below.refl _ _).alloc (Nat.le_refl _) _⟩
theorem results_cellE {fn : Func} {p : Tmp} {ty : TypeId} (h : fn.results = #[.cell p ty]) (tmps : Array Value) (P : Program) (w : World) :
    (results fn tmps).run P w = ((asAddr (tmps.getD p undef)).run P w).andThen fun a w₁ => (loadVar ty a).run P w₁ := by
  simp only [results, h]
  simp [Sem.run_bind, Result.andThen]
theorem sh_dir {e : Ent} (h : rE e = true) (h1 : e.2.1 ≠ 1) : sh e = (e.1, 2, e.2.2) := by
  unfold sh
  rw [if_neg h1]
  obtain ⟨_, _, _, _, h5⟩ := rightE_parts h
  rcases h5 with h5 | h5
  · exact absurd h5 h1
  · unfold dE
    rw [show e.2.2 = ⟨#[]⟩ from ba_ext (List.length_eq_zero_iff.1 (by rw [← Lib.size_eq]; exact h5))]
set_option maxHeartbeats 1000000 in
theorem shown10 (e : Ent) (h : rE e = true) (h3 : e.2.1 ≠ 3) (w : World) : Calls Try.prog 34 #[enV e] w fun r w' => r = .returned (enV (sh e)) ∧ Below w.heap.size w w' := by
  obtain ⟨W, hW⟩ : ∃ W, w.alloc (.cells #[.string e.1, .int .i64 e.2.1, .string e.2.2] 34) = W := ⟨_, rfl⟩
  obtain ⟨M, hM⟩ : ∃ M, w.heap.size = M := ⟨_, rfl⟩
  obtain ⟨V, hV⟩ : ∃ V, W.alloc (.cells #[.string ⟨#[]⟩, .int .i64 0, .string ⟨#[]⟩] 34) = V := ⟨_, rfl⟩
  obtain ⟨O, hO⟩ : ∃ O, W.heap.size = O := ⟨_, rfl⟩
  have hb0 : Below w.heap.size w W := by rw [← hW]; exact (Below.refl _ _).alloc (Nat.le_refl _) _
  have hb1 : Below W.heap.size W V := by rw [← hV]; exact (Below.refl _ _).alloc (Nat.le_refl _) _
  have q0 : EnAt W M e.1 e.2.1 e.2.2 := by rw [← hW, ← hM]; exact enAt_new _ _ _ _
  have q1 : EnAt V M e.1 e.2.1 e.2.2 := q0.below hb1
  have r1 : EnAt V O ⟨#[]⟩ 0 ⟨#[]⟩ := by rw [← hV, ← hO]; exact enAt_new _ _ _ _
  have HNE := Lib.hid (show M ≠ O ∧ w.heap.size ≤ M ∧ w.heap.size ≤ O by
    have := q0.lt
    have := hb0.size
    omega)
  have HB := Lib.hid (hb0.trans (hb1.mono hb0.size))
  have HQ := Lib.hid q1
  have HR := Lib.hid r1
  clear hb0 hb1 q0
  have called : (e.2.1 = 1 ∧ (e.2.1 == 2 || e.2.1 == 4) = false) ∨ (e.2.1 ≠ 1 ∧ (e.2.1 == 2 || e.2.1 == 4) = true) := by
    have hk := kind_of h
    by_cases h1 : e.2.1 = 1
    · exact .inl ⟨h1, by rw [h1]; rfl⟩
    · refine .inr ⟨h1, ?_⟩
      have : e.2.1 = 2 ∨ e.2.1 = 4 := by omega
      rcases this with h | h <;> rw [h] <;> rfl
  have c0 := q1.c0
  have c1 := q1.c1
  have c2 := q1.c2
  clear q1 r1
  rcases called with ⟨h1, hv⟩ | ⟨h1, hv⟩
  · have HV := Lib.hid (show sh e = e by unfold sh; rw [if_pos h1])
    have HH := Lib.hid hv
    clear h h3 h1 hv
    go_enter Try.func34, Try.ntmps34
    go_wp2_with fail
    refine (holds8 e.1 e.2.2 e.2.1 V).mono ?_
    rintro r w1 ⟨rfl, hb⟩
    rw [HH.out]
    have HB1 := Lib.hid (HB.out.trans (hb.mono HB.out.size))
    have HQ1 := Lib.hid (HQ.out.below hb)
    have HR1 := Lib.hid (HR.out.below hb)
    clear hb c0 c1 c2
    have c0 := HQ1.out.c0
    have c1 := HQ1.out.c1
    have c2 := HQ1.out.c2
    have r0 := HR1.out.c0
    have r1 := HR1.out.c1
    have r2 := HR1.out.c2
    have f0 := HR1.out.f0
    have f1 := HR1.out.f1
    have f2 := HR1.out.f2
    go_wp2
    have hld := lv_en (HR1.out.set e.1 e.2.1 e.2.2)
    refine bodyPost_ret (v := enV e) ?_ rfl ⟨by rw [HV.out], below_en3 HB1.out HNE.out.2.2 _ _ _⟩
    rw [results_cellE rfl]
    simp [asAddr, Result.andThen, hld]
  · have HV := Lib.hid (sh_dir h h1)
    have HH := Lib.hid hv
    clear h h3 h1 hv
    go_enter Try.func34, Try.ntmps34
    go_wp2_with fail
    refine (holds8 e.1 e.2.2 e.2.1 V).mono ?_
    rintro r w1 ⟨rfl, hb⟩
    rw [HH.out]
    have HB1 := Lib.hid (HB.out.trans (hb.mono HB.out.size))
    have HQ1 := Lib.hid (HQ.out.below hb)
    have HR1 := Lib.hid (HR.out.below hb)
    clear hb c0 c1 c2
    have c0 := HQ1.out.c0
    have c1 := HQ1.out.c1
    have c2 := HQ1.out.c2
    have g1 := HQ1.out.f1
    have r0 := HR1.out.c0
    have r1 := HR1.out.c1
    have r2 := HR1.out.c2
    have f0 := HR1.out.f0
    have f1 := HR1.out.f1
    have f2 := HR1.out.f2
    have hne : ¬ M = O := HNE.out.1
    have hne2 : ¬ O = M := fun h => HNE.out.1 h.symm
    go_wp2
    have h5 : EnAt (w1.setCell ⟨M, 1, none⟩ (.int .i64 2)) O ⟨#[]⟩ 0 ⟨#[]⟩ := HR1.out.of (Below.heap_setCell _ _ _ _ hne2)
    have hld := lv_en (h5.set e.1 2 e.2.2)
    refine bodyPost_ret (v := entV e.1 2 e.2.2) ?_ rfl ⟨by rw [HV.out], below_en3 (HB1.out.setCell (p := ⟨M, 1, none⟩) HNE.out.2.1 _) HNE.out.2.2 _ _ _⟩
    rw [results_cellE rfl]
    simp [asAddr, Result.andThen, hld]
end Go.Proofs.Ytkannambildnoaa

namespace Go.Proofs.Ytkannambildnoaa
open Go.RowKit

/-- A greater bound: an entry at the end of a slice that a call made itself, the entry in a new block. -/
theorem wl_putG {w : World} {ops : Array Oper} {rest : List Oper} {o : Oper} {a : Act} {Q : Exit → Act → World → Prop} (hgd : o.guard = none) (s x : Operand)
    (ho : o.op = .call { callee := .builtin .append, args := #[s, x], argTypes := #[23, 23] }) (B : Nat) (v : Value) (l : List Ent) (e : Ent) (hs : a.eval s = v) (hown : OwnE w B v l) (hB : B ≤ w.heap.size)
    (M : Nat) (hx : a.eval x = .slice (some ⟨M, 0, none⟩) 1 1) (hM : EnAt w M e.1 e.2.1 e.2.2) (hl : l.length ≤ 100000)
    (h : ∀ v' w', OwnE w' B v' (l ++ [e]) → w.grownBy w' v.ownBlock → wpList Try.prog ops Q rest (a.put o.dst v') w') : wpList Try.prog ops Q (o :: rest) a w := by
  obtain ⟨ie, hie, hz, hsz, hby⟩ := info_parts infoEn
  refine wl_append_any hgd s x 23 ho B 34 ie _ 3 40 Try.underlying23 hie hz hsz hby rfl (by decide) v l.length _ hs hown (some ⟨M, 0, none⟩) 1 1 (enc e) hx rfl ?_ (fun e => by cases e) ?_ (by unfold maxLen; omega) (by omega) hB ?_
  · intro ad e1 j u hu
    cases e1
    rw [Addr.add_lit]
    exact hM.range j u hu
  · intro u hu
    rcases List.mem_cons.1 hu with rfl | hu
    · rfl
    rcases List.mem_cons.1 hu with rfl | hu
    · rfl
    rcases List.mem_cons.1 hu with rfl | hu
    · rfl
    cases hu
  · intro v' w' h1 h2
    refine h v' w' ?_ h2
    unfold OwnE
    rw [List.length_append, List.flatMap_append]
    simpa using h1
set_option maxRecDepth 10000 in
set_option maxHeartbeats 4000000 in
theorem laid10 (t l : List Ent) (a : Option Addr) (cap : Nat) (a2 : Option Addr) (cap2 : Nat) (w : World) (ht : Ents w a cap t) (hl : Ents w a2 cap2 l) (hT : TR t) (hR : RightL l) (hn : t.length ≤ 1000) :
    Calls Try.prog 22 #[.slice a t.length cap, .slice a2 l.length cap2] w fun e w' => ∃ a' cap', e = .returned (.slice a' (over t l).length cap') ∧ Ents w' a' cap' (over t l) ∧ Below w.heap.size w w' := by
  have HC := Lib.hid (gone10 l a2 cap2 w hl (sm_right hR))
  have HT := Lib.hid hT
  have HR := Lib.hid hR
  have HN := Lib.hid hn
  have HET := Lib.hid ht
  have HEL := Lib.hid hl
  have HPS := Lib.hid (fun c hp hs => pile_sorted (c := c) hT.1.2.1 hR.2.2.1 hR.2.1 hp hs)
  have HPL := Lib.hid (pile_len t l)
  clear ht hl hT hR hn
  go_enter Try.func22, Try.ntmps22
  go_wp2_with fail
  refine HC.out.mono ?_
  rintro e w1 ⟨P, rfl, hg, hb⟩
  have HB1 := Lib.hid hb
  have HG := Lib.hid hg
  replace HET := Lib.hid (RowN.below HET.out hb)
  replace HEL := Lib.hid (RowN.below HEL.out hb)
  clear hg hb
  go_wp2
  go_loopg [6, 15] t.length (fun g v i wx => ∃ (k : Nat), i = .int .i64 (k : Int) ∧ k + g = t.length ∧ Hid (OwnE wx w1.heap.size v (kept (t.take k) l)) ∧ Hid (Below w1.heap.size w1 wx))
  case atStart => exact ⟨0, rfl, by omega, ownE_nil _ _, Below.refl _ _⟩
  case round =>
    obtain ⟨k, rfl, hk, HO, HB⟩ := hrel
    have hw : IntKind.i64.wrap ((k : Int) + 1) = (k : Int) + 1 := IntWalk.i64_in _ (by have := HN.out; omega)
    by_cases hlt : k < t.length
    · have hlt' : (k : Int) < (t.length : Int) := by omega
      obtain ⟨b, off, rfl, hb, hc⟩ := Ents.at HET.out HB.out hlt
      have HX := Lib.hid (HT.out.1.1 _ (List.getElem_mem hlt))
      have HK := Lib.hid (show kept (t.take (k + 1)) l = if goes l t[k] = true then kept (t.take k) l else kept (t.take k) l ++ [t[k]] by rw [take_sn t k hlt, kept_snoc])
      have HLN := Lib.hid (show (kept (t.take k) l).length ≤ 100000 by
        have h1 : (kept (t.take k) l).length ≤ (t.take k).length := List.length_filter_le _ _
        have := HN.out
        rw [List.length_take] at h1
        omega)
      obtain ⟨x, hx⟩ : ∃ x, t[k] = x := ⟨_, rfl⟩
      rw [hx] at hc HX HK
      have c0 := hc.c0
      have c1 := hc.c1
      have c2 := hc.c2
      obtain ⟨W, hW⟩ : ∃ W, wr.alloc (.cells #[.string x.1, .int .i64 x.2.1, .string x.2.2] 34) = W := ⟨_, rfl⟩
      obtain ⟨M, hM⟩ : ∃ M, wr.heap.size = M := ⟨_, rfl⟩
      have hbW : Below wr.heap.size wr W := by rw [← hW]; exact (Below.refl _ _).alloc (Nat.le_refl _) _
      have hq : EnAt W M x.1 x.2.1 x.2.2 := by rw [← hW, ← hM]; exact enAt_new _ _ _ _
      have HQ := Lib.hid hq
      have q0 := hq.c0
      have q1 := hq.c1
      have q2 := hq.c2
      have HBW := Lib.hid (HB.out.trans (hbW.mono HB.out.size))
      have HOW := Lib.hid (HO.out.below hbW)
      have HCC := Lib.hid (gclo10 l w.heap.size P x W (HG.out.below HBW.out) HR.out.2.2.1 HR.out.2.1 HX.out)
      clear hc hx hb hbW hq
      go_wp2_with fail
      refine HCC.out.mono ?_
      rintro e w2 ⟨rfl, hb⟩
      have HB2 := Lib.hid (HBW.out.trans (hb.mono HBW.out.size))
      have HO2 := Lib.hid (HOW.out.below hb)
      have HQ2 := Lib.hid (HQ.out.below hb)
      clear hb q0 q1 q2
      cases hgo : goes l x with
      | true =>
        rw [hgo, if_pos rfl] at HK
        clear hgo
        go_wp2
        go_roundg (gk - 1)
        case measure => omega
        case rel => exact ⟨k + 1, by simp, by omega, by rw [HK.out]; exact HO2.out, HB2.out⟩
      | false =>
        rw [hgo, if_neg (by simp)] at HK
        clear hgo
        have q0 := HQ2.out.c0
        have q1 := HQ2.out.c1
        have q2 := HQ2.out.c2
        go_wp2_with (at_builtin; refine Stopped.go ?_)
        unfold Stopped
        refine wl_putG (by rfl) _ _ (by rfl) w1.heap.size u6 _ x (by rfl) (HO2.out.below ((Below.refl _ _).alloc (Nat.le_refl _) _)) (by have := HB2.out.size; simp; omega) w2.heap.size (by rfl) (enAt_new w2 x.1 x.2.1 x.2.2) HLN.out ?_
        intro v6 w6 ho hg
        have HB6 := Lib.hid ((HB2.out.alloc HB2.out.size (.cells #[.string x.1, .int .i64 x.2.1, .string x.2.2] 34)).grown hg (by have := HB2.out.size; simp; omega) (fun k hk => (ownE_blk HO2.out k hk).1))
        have HO6 := Lib.hid ho
        clear ho hg
        go_wp2
        go_roundg (gk - 1)
        case measure => omega
        case rel => exact ⟨k + 1, by simp, by omega, by rw [HK.out]; exact HO6.out, HB6.out⟩
    · have hlt' : ¬ (k : Int) < (t.length : Int) := by omega
      have HK := Lib.hid (show kept (t.take k) l = kept t l by rw [List.take_of_length_le (by omega)])
      rw [HK.out] at HO
      go_wp2
      clear hw hlt hlt' hk HK
      go_loopg [6, 30] l.length (fun g v i wx => ∃ (k : Nat), i = .int .i64 (k : Int) ∧ k + g = l.length ∧ Hid (OwnE wx w1.heap.size v (kept t l ++ news (l.take k))) ∧ Hid (Below w1.heap.size w1 wx))
      case atStart => exact ⟨0, rfl, by omega, by simpa [news, Hid] using HO.out, HB.out⟩
      case round =>
        obtain ⟨j, rfl, hj, HO3, HB3⟩ := hrel
        have hw : IntKind.i64.wrap ((j : Int) + 1) = (j : Int) + 1 := IntWalk.i64_in _ (by have := HR.out.1; omega)
        by_cases hlt : j < l.length
        · have hlt' : (j : Int) < (l.length : Int) := by omega
          obtain ⟨b, off, rfl, hb, hc⟩ := Ents.at HEL.out HB3.out hlt
          have HX := Lib.hid (HR.out.2.1 _ (List.getElem_mem hlt))
          have HK := Lib.hid (show news (l.take (j + 1)) = if l[j].2.1 = 3 then news (l.take j) else news (l.take j) ++ [sh l[j]] by rw [take_sn l j hlt, news_snoc])
          have HLN := Lib.hid (show (kept t l ++ news (l.take j)).length ≤ 100000 by
            have h1 : (kept t l).length ≤ t.length := List.length_filter_le _ _
            have h2 : (news (l.take j)).length ≤ (l.take j).length := by unfold news; rw [List.length_map]; exact List.length_filter_le _ _
            have := HN.out
            have := HR.out.1
            rw [List.length_take] at h2
            rw [List.length_append]
            omega)
          obtain ⟨x, hx⟩ : ∃ x, l[j] = x := ⟨_, rfl⟩
          rw [hx] at hc HX HK
          have c0 := hc.c0
          have c1 := hc.c1
          have c2 := hc.c2
          obtain ⟨W, hW⟩ : ∃ W, wr.alloc (.cells #[.string x.1, .int .i64 x.2.1, .string x.2.2] 34) = W := ⟨_, rfl⟩
          obtain ⟨M, hM⟩ : ∃ M, wr.heap.size = M := ⟨_, rfl⟩
          have hbW : Below wr.heap.size wr W := by rw [← hW]; exact (Below.refl _ _).alloc (Nat.le_refl _) _
          have hq : EnAt W M x.1 x.2.1 x.2.2 := by rw [← hW, ← hM]; exact enAt_new _ _ _ _
          have q0 := hq.c0
          have q1 := hq.c1
          have q2 := hq.c2
          have HBW := Lib.hid (HB3.out.trans (hbW.mono HB3.out.size))
          have HOW := Lib.hid (HO3.out.below hbW)
          clear hc hx hb hbW hq
          by_cases h3 : x.2.1 = 3
          · rw [if_pos h3] at HK
            have g1 : (x.2.1 == 3) = true := by rw [h3]; rfl
            have g2 : (x.2.1 != 3) = false := by rw [h3]; rfl
            clear h3
            go_wp2
            go_roundg (l.length - (j + 1))
            case measure => omega
            case rel => exact ⟨j + 1, by simp, by omega, by rw [HK.out]; exact HOW.out, HBW.out⟩
          · rw [if_neg h3] at HK
            have g1 : (x.2.1 == 3) = false := beq_eq_false_iff_ne.2 h3
            have g2 : (x.2.1 != 3) = true := by rw [bne, g1]; rfl
            have HCC := Lib.hid (shown10 x HX.out h3 W)
            obtain ⟨y, hy⟩ : ∃ y, sh x = y := ⟨_, rfl⟩
            rw [hy] at HCC HK
            clear h3 hy
            go_wp2_with fail
            refine HCC.out.mono ?_
            rintro e w2 ⟨rfl, hb⟩
            have HB2 := Lib.hid (HBW.out.trans (hb.mono HBW.out.size))
            have HO2 := Lib.hid (HOW.out.below hb)
            clear hb q0 q1 q2
            go_wp2_with (at_builtin; refine Stopped.go ?_)
            unfold Stopped
            refine wl_putG (by rfl) _ _ (by rfl) w1.heap.size u6 _ y (by rfl) (HO2.out.below ((Below.refl _ _).alloc (Nat.le_refl _) _)) (by have := HB2.out.size; simp; omega) w2.heap.size (by rfl) (enAt_new w2 y.1 y.2.1 y.2.2) HLN.out ?_
            intro v6 w6 ho hg
            have HB6 := Lib.hid ((HB2.out.alloc HB2.out.size (.cells #[.string y.1, .int .i64 y.2.1, .string y.2.2] 34)).grown hg (by have := HB2.out.size; simp; omega) (fun k hk => (ownE_blk HO2.out k hk).1))
            have HO6 := Lib.hid ho
            clear ho hg
            go_wp2
            go_roundg (l.length - (j + 1))
            case measure => omega
            case rel => exact ⟨j + 1, by simp, by omega, by rw [HK.out, ← List.append_assoc]; exact HO6.out, HB6.out⟩
        · have hlt' : ¬ (j : Int) < (l.length : Int) := by omega
          have HK := Lib.hid (show news (l.take j) = news l by rw [List.take_of_length_le (by omega)])
          rw [HK.out] at HO3
          go_wp2_with fail
          refine (sort10 w1.heap.size u6 _ _ HO3.out HB3.out.size (by have := HPL.out; have := HN.out; have := HR.out.1; omega)).mono ?_
          rintro e w3 ⟨rfl, l', a3, cap3, rfl, hp, hs, hE, hb⟩
          obtain rfl := HPS.out _ hp hs
          have HB4 := Lib.hid (HB1.out.trans ((HB3.out.trans hb).mono HB1.out.size))
          have HE4 := Lib.hid hE
          clear hp hs hE hb
          go_wp2
          go_ret
          exact ⟨a3, cap3, rfl, HE4.out, HB4.out⟩
end Go.Proofs.Ytkannambildnoaa

namespace Go.Proofs.Ytkannambildnoaa
open Go.RowKit

/-- How many entries stand ahead of a path. -/
def plc (l : List Ent) (p : List UInt8) : Nat := (l.filter fun a => lt8 (pl a) p).length
theorem plc_split {l : List Ent} (h : Asc l) (p : List UInt8) : l.take (plc l p) = l.filter (fun a => lt8 (pl a) p) ∧ l.drop (plc l p) = l.filter (fun a => !lt8 (pl a) p) := by
  induction l with
  | nil => exact ⟨rfl, rfl⟩
  | cons x r ih =>
    obtain ⟨h1, h2⟩ := List.pairwise_cons.1 h
    obtain ⟨i1, i2⟩ := ih h2
    unfold plc at i1 i2 ⊢
    cases hx : lt8 (pl x) p with
    | true =>
      rw [List.filter_cons_of_pos (by simpa using hx), List.filter_cons_of_neg (by simp [hx]), List.length_cons, List.take_succ_cons, List.drop_succ_cons, i1]
      exact ⟨rfl, i2⟩
    | false =>
      have h3 : ∀ y ∈ x :: r, lt8 (pl y) p = false := fun y hy => by
        rcases List.mem_cons.1 hy with rfl | hy
        · exact hx
        · cases h4 : lt8 (pl y) p with
          | false => rfl
          | true => have := lt8_trans (h1 y hy) h4; rw [hx] at this; cases this
      rw [List.filter_eq_nil_iff.2 fun y hy => by rw [h3 y hy]; simp, List.filter_eq_self.2 fun y hy => by rw [h3 y hy]; rfl]
      exact ⟨rfl, rfl⟩
theorem plc_le (l : List Ent) (p : List UInt8) : plc l p ≤ l.length := List.length_filter_le _ _
theorem plc_at {l : List Ent} (h : Asc l) (p : List UInt8) {i : Nat} (hi : i < l.length) : lt8 (pl l[i]) p = decide (i < plc l p) := by
  obtain ⟨h1, h2⟩ := plc_split h p
  by_cases hk : i < plc l p
  · rw [decide_eq_true hk]
    have : l[i] ∈ l.take (plc l p) := by
      rw [List.mem_take_iff_getElem]
      exact ⟨i, by omega, rfl⟩
    rw [h1] at this
    simpa using (List.mem_filter.1 this).2
  · rw [decide_eq_false hk]
    have : l[i] ∈ l.drop (plc l p) := by
      rw [List.mem_drop_iff_getElem]
      refine ⟨i - plc l p, by omega, ?_⟩
      congr 1
      omega
    rw [h2] at this
    simpa using (List.mem_filter.1 this).2
/-- What stands there. -/
theorem plc_fnd {l : List Ent} (h : Asc l) (p : List UInt8) : fnd l p = (l[plc l p]?).bind fun e => if pl e = p then some e else none := by
  obtain ⟨h1, h2⟩ := plc_split h p
  have hA : ∀ e ∈ l.take (plc l p), pl e ≠ p := fun e he => by
    rw [h1] at he
    exact lt8_ne (by simpa using (List.mem_filter.1 he).2)
  have hf : fnd l p = fnd (l.drop (plc l p)) p := by
    conv => lhs; rw [← List.take_append_drop (plc l p) l]
    unfold fnd
    rw [List.find?_append, List.find?_eq_none.2 fun e he => by simpa using hA e he]
    rfl
  have hd : Asc (l.drop (plc l p)) := List.Pairwise.sublist (List.drop_sublist _ _) h
  have hg : l[plc l p]? = (l.drop (plc l p))[0]? := by simp
  rw [hf, hg]
  have hB : ∀ e ∈ l.drop (plc l p), lt8 (pl e) p = false := fun e he => by
    rw [h2] at he
    simpa using (List.mem_filter.1 he).2
  cases hD : l.drop (plc l p) with
  | nil => rfl
  | cons x r =>
    rw [hD] at hd hB
    show fnd (x :: r) p = if pl x = p then some x else none
    split
    · rename_i hp
      unfold fnd
      rw [List.find?_cons_of_pos (by simpa using hp)]
    · rename_i hp
      rw [fnd_none]
      intro y hy
      rcases List.mem_cons.1 hy with rfl | hy
      · exact hp
      · intro e0
        have h3 := (List.pairwise_cons.1 hd).1 y hy
        rw [e0, hB x List.mem_cons_self] at h3
        cases h3
theorem plc_some {l : List Ent} (h : Asc l) {p : List UInt8} {e : Ent} (he : fnd l p = some e) : ∃ hk : plc l p < l.length, l[plc l p] = e ∧ pl e = p := by
  rw [plc_fnd h p] at he
  cases hg : l[plc l p]? with
  | none => rw [hg] at he; cases he
  | some x =>
    rw [hg, Option.bind_some] at he
    obtain ⟨hk, hx⟩ := List.getElem?_eq_some_iff.1 hg
    split at he
    · rename_i hp
      cases he
      exact ⟨hk, hx, hp⟩
    · cases he
theorem gt_drop {l : List Ent} (h : Asc l) (p : List UInt8) : l.filter (fun a => lt8 p (pl a)) = (l.drop (plc l p)).filter (fun a => lt8 p (pl a)) := by
  obtain ⟨h1, h2⟩ := plc_split h p
  conv => lhs; rw [← List.take_append_drop (plc l p) l]
  rw [List.filter_append, List.filter_eq_nil_iff.2, List.nil_append]
  intro e he
  rw [h1] at he
  have : lt8 (pl e) p = true := by simpa using (List.mem_filter.1 he).2
  rw [lt8_asymm this]
  simp
theorem wth_new {l : List Ent} (h : Asc l) {e : Ent} (hn : fnd l (pl e) = none) : wth l e = l.take (plc l (pl e)) ++ ([e] ++ l.drop (plc l (pl e))) := by
  obtain ⟨h1, h2⟩ := plc_split h (pl e)
  have h5 : (l.drop (plc l (pl e))).filter (fun a => lt8 (pl e) (pl a)) = l.drop (plc l (pl e)) := List.filter_eq_self.2 fun a ha => by
    have h3 : a ∈ l := List.mem_of_mem_drop ha
    rw [h2] at ha
    have h4 : lt8 (pl a) (pl e) = false := by simpa using (List.mem_filter.1 ha).2
    rcases lt8_tri (pl a) (pl e) with h | h | h
    · exact absurd h (fnd_none.1 hn a h3)
    · rw [h4] at h; cases h
    · exact h
  unfold wth
  rw [gt_drop h, h1, h5]
  rfl
theorem drop_plc {l : List Ent} (h : Asc l) {p : List UInt8} {x : Ent} (hn : fnd l p = some x) : l.drop (plc l p) = x :: l.drop (plc l p + 1) ∧ pl x = p ∧ ∀ y ∈ l.drop (plc l p + 1), lt8 p (pl y) = true := by
  obtain ⟨hk, hx, hp⟩ := plc_some h hn
  have hd : Asc (l.drop (plc l p)) := List.Pairwise.sublist (List.drop_sublist _ _) h
  have he := List.drop_eq_getElem_cons hk
  rw [hx] at he
  refine ⟨he, hp, fun y hy => ?_⟩
  unfold Asc at hd
  rw [he] at hd
  rw [← hp]
  exact (List.pairwise_cons.1 hd).1 y hy
theorem wth_old {l : List Ent} (h : Asc l) {e x : Ent} (hn : fnd l (pl e) = some x) : wth l e = l.take (plc l (pl e)) ++ ([e] ++ l.drop (plc l (pl e) + 1)) := by
  obtain ⟨h1, _⟩ := plc_split h (pl e)
  obtain ⟨h3, h4, h5⟩ := drop_plc h hn
  unfold wth
  rw [gt_drop h, h1, h3, List.filter_cons_of_neg (by rw [h4, lt8_irr]; simp), List.filter_eq_self.2 h5]
  rfl
theorem wout_old {l : List Ent} (h : Asc l) {p : List UInt8} {x : Ent} (hn : fnd l p = some x) : wout l p = l.take (plc l p) ++ l.drop (plc l p + 1) := by
  obtain ⟨h1, _⟩ := plc_split h p
  obtain ⟨h3, h4, h5⟩ := drop_plc h hn
  unfold wout
  conv => lhs; rw [← List.take_append_drop (plc l p) l]
  rw [List.filter_append, h3, List.filter_cons_of_neg (by simp [h4]), List.filter_eq_self.2, List.filter_eq_self.2]
  · intro a ha
    have := lt8_ne (h5 a ha)
    simpa using fun e0 => this e0.symm
  · intro a ha
    rw [h1] at ha
    have : lt8 (pl a) p = true := by simpa using (List.mem_filter.1 ha).2
    simpa using lt8_ne this
theorem Ents.take {w : World} {a : Option Addr} {cap : Nat} {l : List Ent} (h : Ents w a cap l) (n : Nat) : Ents w a cap (l.take n) := by
  obtain ⟨h1, h2⟩ := h
  refine ⟨by rw [List.length_take]; omega, ?_⟩
  rcases h2 with rfl | ⟨b, off, rfl, hlt, hc⟩
  · exact .inl (by simp)
  · refine .inr ⟨b, off, rfl, hlt, fun j x hx => hc j x ?_⟩
    rw [List.getElem?_take] at hx
    split at hx
    · exact hx
    · cases hx
/-- A list without its first n entries. -/
theorem Ents.drop {w : World} {b off cap : Nat} {l : List Ent} (h : Ents w (some ⟨b, off, none⟩) cap l) (n : Nat) (hn : n ≤ l.length) : Ents w (some ⟨b, off + n * 3, none⟩) (cap - n) (l.drop n) := by
  obtain ⟨h1, h2⟩ := h
  refine ⟨by rw [List.length_drop]; omega, ?_⟩
  rcases h2 with rfl | ⟨b', off', e0, hlt, hc⟩
  · exact .inl (by simp)
  · cases e0
    refine .inr ⟨b, off + n * 3, rfl, hlt, fun j x hx => ?_⟩
    rw [List.getElem?_drop] at hx
    have := hc (n + j) x hx
    rwa [show off + (n + j) * 3 = off + n * 3 + j * 3 by omega] at this
end Go.Proofs.Ytkannambildnoaa

namespace Go.Proofs.Ytkannambildnoaa
open Go.RowKit

theorem geq_str (t : TypeId) (a b : ByteArray) : binOp .geq t (.string a) (.string b) = pure (.bool !(Op.bytesLess a.toList b.toList)) := by simp [binOp, Op.stringOp]
attribute [local go_sem] geq_str
set_option maxRecDepth 10000 in
set_option maxHeartbeats 1000000 in
theorem clo9 (l : List Ent) (a : Option Addr) (cap : Nat) (p : ByteArray) (ba bp i : Nat) (w : World) (hi : i < l.length) (ca : w.cell? ⟨ba, 0, none⟩ = some (.slice a l.length cap)) (cp : w.cell? ⟨bp, 0, none⟩ = some (.string p)) (h : Ents w a cap l) :
    Calls Try.prog 53 (#[.int .i64 (i : Int)] ++ #[.pointer (some ⟨ba, 0, none⟩), .pointer (some ⟨bp, 0, none⟩)]) w fun e w' => e = .returned (.bool (!lt8 (pl l[i]) p.data.toList)) ∧ Below w.heap.size w w' := by
  obtain ⟨b, off, rfl, hb, hc⟩ := Ents.at h (Below.refl _ _) hi
  obtain ⟨x, hx⟩ : ∃ x, l[i] = x := ⟨_, rfl⟩
  rw [hx] at hc ⊢
  have c0 := hc.c0
  have hi' : (i : Int) < (l.length : Int) := by omega
  clear hc hx hb h
  go_enter Try.func53, Try.ntmps53
  go_wp2
  go_quiet (fail)
  go_wp2
  go_ret
  exact ⟨by rw [Lib.toList_data, Lib.toList_data]; rfl, below_drewX (Below.refl _ _) _⟩
set_option maxRecDepth 10000 in
set_option maxHeartbeats 2000000 in
theorem search9 (cb : Array Value) (n K : Nat) (w : World) (hn : n ≤ 100000) (hK : K ≤ n)
    (hf : ∀ w', Below w.heap.size w w' → ∀ i : Nat, i < n → Calls Try.prog 53 (#[.int .i64 (i : Int)] ++ cb) w' fun e w'' => e = .returned (.bool (decide (K ≤ i))) ∧ Below w'.heap.size w' w'') :
    Calls Try.prog 52 #[.int .i64 (n : Int), .func (.func 53) #[] cb] w fun e w' => e = .returned (.int .i64 (K : Int)) ∧ Below w.heap.size w w' := by
  have HF := Lib.hid hf
  clear hf
  go_enter Try.func52, Try.ntmps52
  go_wp2
  go_loopg [5, 6] n (fun g s5 s6 wr => ∃ (lo hi : Nat), s5 = .int .i64 (lo : Int) ∧ s6 = .int .i64 (hi : Int) ∧ lo ≤ hi ∧ hi ≤ n ∧ hi - lo ≤ g ∧ Hid (lo ≤ K ∧ K ≤ hi) ∧ Hid (Below w.heap.size w wr))
  case atStart => exact ⟨0, n, rfl, rfl, Nat.zero_le _, Nat.le_refl _, by omega, ⟨by omega, hK⟩, Below.refl _ _⟩
  case round =>
    obtain ⟨lo, hi, rfl, rfl, hlh, hin, hg, HI, HB⟩ := hrel
    by_cases hlt : lo < hi
    · have hc := HF.out wr HB.out ((lo + hi) / 2) (by omega)
      rw [show (((lo + hi) / 2 : Nat) : Int) = ((lo : Int) + (hi : Int)) / 2 by omega] at hc
      by_cases hp : K ≤ (lo + hi) / 2
      · rw [decide_eq_true hp] at hc
        have HP := Lib.hid hp
        have HC := Lib.hid hc
        clear hp hc
        go_wp2_with fail
        refine (HC.out).mono ?_
        rintro e w1 ⟨rfl, hb⟩
        have HB1 := Lib.hid (HB.out.trans (hb.mono HB.out.size))
        clear hb
        go_wp2
        go_roundg ((lo + hi) / 2 - lo)
        case measure => omega
        case rel => exact ⟨lo, (lo + hi) / 2, rfl, by rw [show ((lo : Int) + (hi : Int)) / 2 = (((lo + hi) / 2 : Nat) : Int) by omega], by omega, by omega, Nat.le_refl _, ⟨HI.out.1, HP.out⟩, HB1.out⟩
      · rw [decide_eq_false hp] at hc
        have HP := Lib.hid hp
        have HC := Lib.hid hc
        clear hp hc
        go_wp2_with fail
        refine (HC.out).mono ?_
        rintro e w1 ⟨rfl, hb⟩
        have HB1 := Lib.hid (HB.out.trans (hb.mono HB.out.size))
        clear hb
        go_wp2
        go_roundg (hi - ((lo + hi) / 2 + 1))
        case measure => omega
        case rel => exact ⟨(lo + hi) / 2 + 1, hi, by rw [show ((lo : Int) + (hi : Int)) / 2 + 1 = (((lo + hi) / 2 + 1 : Nat) : Int) by omega], rfl, by omega, hin, Nat.le_refl _, ⟨by have := HP.out; omega, HI.out.2⟩, HB1.out⟩
    · have HV := Lib.hid (show lo = K by have := HI.out; omega)
      go_wp2
      go_ret
      exact ⟨by rw [HV.out]; rfl, HB.out⟩
set_option maxRecDepth 10000 in
set_option maxHeartbeats 2000000 in
theorem place9 (l : List Ent) (a : Option Addr) (cap : Nat) (p : ByteArray) (w : World) (h : Ents w a cap l) (hA : Asc l) (hl : l.length ≤ 1000) :
    Calls Try.prog 41 #[.slice a l.length cap, .string p] w fun e w' => e = .returned (.tuple #[.int .i64 (plc l p.data.toList : Nat), .bool (fnd l p.data.toList).isSome]) ∧ Below w.heap.size w w' := by
  obtain ⟨W, hW⟩ : ∃ W, w.alloc (.cells #[.slice a l.length cap] 23) = W := ⟨_, rfl⟩
  obtain ⟨N, hN⟩ : ∃ N, w.heap.size = N := ⟨_, rfl⟩
  obtain ⟨V, hV⟩ : ∃ V, W.alloc (.cells #[.string p] 9) = V := ⟨_, rfl⟩
  obtain ⟨M, hM⟩ : ∃ M, W.heap.size = M := ⟨_, rfl⟩
  have hb0 : Below w.heap.size w W := by rw [← hW]; exact (Below.refl _ _).alloc (Nat.le_refl _) _
  have hb1 : Below W.heap.size W V := by rw [← hV]; exact (Below.refl _ _).alloc (Nat.le_refl _) _
  have ca0 : W.cell? ⟨N, 0, none⟩ = some (.slice a l.length cap) := by rw [← hW, ← hN]; simp
  have hlt0 : N < W.heap.size := by rw [← hW, ← hN]; simp
  have ca : V.cell? ⟨N, 0, none⟩ = some (.slice a l.length cap) := (hb1.cell (p := ⟨N, 0, none⟩) hlt0).trans ca0
  have cp : V.cell? ⟨M, 0, none⟩ = some (.string p) := by rw [← hV, ← hM]; simp
  have hbV : Below w.heap.size w V := hb0.trans (hb1.mono hb0.size)
  have HE := Lib.hid (RowN.below h hbV)
  have HBV := Lib.hid hbV
  have HS := Lib.hid (show N < V.heap.size ∧ M < V.heap.size by
    have := hb1.size
    refine ⟨by omega, ?_⟩
    rw [← hV, ← hM]; simp)
  obtain ⟨K, hK⟩ : ∃ K, plc l p.data.toList = K := ⟨_, rfl⟩
  have HK := Lib.hid (show K ≤ l.length by rw [← hK]; exact plc_le _ _)
  have HAT := Lib.hid (fun i (hi : i < l.length) => plc_at hA p.data.toList hi)
  have HFN := Lib.hid (plc_fnd hA p.data.toList)
  rw [hK] at HAT HFN ⊢
  have HC := Lib.hid (search9 #[.pointer (some ⟨N, 0, none⟩), .pointer (some ⟨M, 0, none⟩)] l.length K V (by omega) HK.out fun w' hb i hi => by
    refine (clo9 l a cap p N M i w' hi ((hb.cell (p := ⟨N, 0, none⟩) HS.out.1).trans ca) ((hb.cell (p := ⟨M, 0, none⟩) HS.out.2).trans cp) (RowN.below HE.out hb)).mono ?_
    rintro e w'' ⟨rfl, hb2⟩
    rw [HAT.out i hi]
    refine ⟨?_, hb2⟩
    congr 2
    by_cases h : i < K
    · rw [decide_eq_true h, decide_eq_false (show ¬ K ≤ i by omega)]; rfl
    · rw [decide_eq_false h, decide_eq_true (show K ≤ i by omega)]; rfl)
  have HCA := Lib.hid ca
  have HCP := Lib.hid cp
  have hmf : ∀ (fn : Fn) (first cap : Array Value) (w : World), (Instr.makeFunc fn first cap).run Try.prog w = .ok (.func fn first cap) w := fun _ _ _ _ => rfl
  clear h hA hb0 hb1 ca0 hlt0 cp hbV hK HAT
  go_enter Try.func41, Try.ntmps41
  go_wp2_with fail
  refine (HC.out).mono ?_
  rintro e w1 ⟨rfl, hb⟩
  have HB1 := Lib.hid (HBV.out.trans (hb.mono HBV.out.size))
  have HE1 := Lib.hid (RowN.below HE.out hb)
  have ca := (hb.cell (p := ⟨N, 0, none⟩) HS.out.1).trans HCA.out
  have cp := (hb.cell (p := ⟨M, 0, none⟩) HS.out.2).trans HCP.out
  clear hb
  by_cases hlt : K < l.length
  · have g1 : decide ((K : Int) < (l.length : Int)) = true := decide_eq_true (by omega)
    have hlt' : (K : Int) < (l.length : Int) := by omega
    obtain ⟨b, off, rfl, _, hc⟩ := Ents.at HE1.out (Below.refl _ _) hlt
    have hf := HFN.out
    rw [List.getElem?_eq_getElem hlt, Option.bind_some] at hf
    obtain ⟨x, hx⟩ : ∃ x, l[K] = x := ⟨_, rfl⟩
    rw [hx] at hc hf
    have c0 := hc.c0
    clear hc hx
    by_cases hp : pl x = p.data.toList
    · have gp : (x.1.toList == p.toList) = true := by rw [Lib.toList_data, Lib.toList_data, beq_iff_eq]; exact hp
      rw [if_pos hp] at hf
      have HV := Lib.hid (show (fnd l p.data.toList).isSome = true by rw [hf]; rfl)
      clear hp hf HFN
      go_wp2
      go_quiet (fail)
      go_wp2
      go_ret2
      exact ⟨by rw [HV.out]; rfl, below_drewX HB1.out _⟩
    · have gp : (x.1.toList == p.toList) = false := by rw [Lib.toList_data, Lib.toList_data, beq_eq_false_iff_ne]; exact hp
      rw [if_neg hp] at hf
      have HV := Lib.hid (show (fnd l p.data.toList).isSome = false by rw [hf]; rfl)
      clear hp hf HFN
      go_wp2
      go_quiet (fail)
      go_wp2
      go_ret2
      exact ⟨by rw [HV.out]; rfl, below_drewX HB1.out _⟩
  · have g1 : decide ((K : Int) < (l.length : Int)) = false := decide_eq_false (by omega)
    have hlt' : ¬ (K : Int) < (l.length : Int) := by omega
    have hf := HFN.out
    rw [List.getElem?_eq_none (by omega), Option.bind_none] at hf
    have HV := Lib.hid (show (fnd l p.data.toList).isSome = false by rw [hf]; rfl)
    clear hf HFN
    go_wp2
    go_quiet (fail)
    go_wp2
    go_ret2
    exact ⟨by rw [HV.out]; rfl, below_drewX HB1.out _⟩
end Go.Proofs.Ytkannambildnoaa

namespace Go.Proofs.Ytkannambildnoaa
open Go.RowKit

theorem par9_root {p : List UInt8} (h : isP p) (h1 : p ≠ [47]) : par9 p = [47] ↔ dp p = 1 := by
  obtain ⟨ms, x, a1, _, a3, _, a5⟩ := par9_parts h h1
  rw [a5, dp_pos h, a3, ← pcs_nil (isP_pth a1), pcs_pth a1.2, List.length_append, ← List.length_eq_zero_iff]
  simp only [List.length_singleton]
  omega
theorem inD_fnd {l : List Ent} (hA : Asc l) {e : Ent} (hne : par9 (pl e) ≠ [47]) : decide (inD l e) = (match fnd l (par9 (pl e)) with
    | some d => hd d
    | none => false) := by
  cases hf : fnd l (par9 (pl e)) with
  | none =>
    refine decide_eq_false ?_
    rintro (h | ⟨d, h1, h2, _⟩)
    · exact hne h
    · exact fnd_none.1 hf d h1 h2
  | some d =>
    obtain ⟨h1, h2⟩ := (fnd_some hA).1 hf
    show _ = hd d
    cases hd' : hd d with
    | true => exact decide_eq_true (.inr ⟨d, h1, h2, hd'⟩)
    | false =>
      refine decide_eq_false ?_
      rintro (h | ⟨x, h3, h4, h5⟩)
      · exact hne h
      · obtain rfl := asc_inj hA h1 h3 (h2.trans h4.symm)
        rw [hd'] at h5
        cases h5
set_option maxRecDepth 10000 in
set_option maxHeartbeats 2000000 in
theorem housed9 (l : List Ent) (a : Option Addr) (cap : Nat) (e : Ent) (w : World) (h : Ents w a cap l) (hA : Asc l) (hl : l.length ≤ 1000) (he : rE e = true) :
    Calls Try.prog 28 #[.slice a l.length cap, enV e] w fun r w' => r = .returned (.bool (decide (inD l e))) ∧ Below w.heap.size w w' := by
  obtain ⟨hP, hne⟩ := rE_isP he
  have h54 := isP_len hP
  rw [← Lib.size_eq] at h54
  obtain ⟨W, hW⟩ : ∃ W, w.alloc (.cells #[.string e.1, .int .i64 e.2.1, .string e.2.2] 34) = W := ⟨_, rfl⟩
  obtain ⟨N, hN⟩ : ∃ N, w.heap.size = N := ⟨_, rfl⟩
  have hb0 : Below w.heap.size w W := by rw [← hW]; exact (Below.refl _ _).alloc (Nat.le_refl _) _
  have HB0 := Lib.hid hb0
  have r0 : EnAt W N e.1 e.2.1 e.2.2 := by rw [← hW, ← hN]; exact enAt_new _ _ _ _
  have c0 := r0.c0
  have HR0 := Lib.hid r0
  have HE := Lib.hid (RowN.below h hb0)
  have HA := Lib.hid hA
  have HL := Lib.hid hl
  have HZ := Lib.hid (show e.1.size ≤ 9223372036854775807 by omega)
  have HP := Lib.hid hP
  have HNE := Lib.hid hne
  have HPR := Lib.hid (par9_root hP hne)
  obtain ⟨ms, y, m1, m2, m3, m4, m5⟩ := par9_parts hP hne
  have HPG := Lib.hid (parent_good e.1 ms y hP m2 m4 hne)
  have HM5 := Lib.hid m5
  obtain ⟨n, hn⟩ : ∃ n, dp (pl e) = n := ⟨_, rfl⟩
  rw [hn] at HPR
  have HN := Lib.hid hn
  clear h hA hl he hP hne h54 hb0 r0 m1 m2 m3 m4 m5 hn
  by_cases h1 : n = 1
  · have g1 : (n == 1) = true := by rw [h1]; rfl
    have HV := Lib.hid (show decide (inD l e) = true from decide_eq_true (.inl (HPR.out.2 h1)))
    clear h1
    go_enter Try.func28, Try.ntmps28
    go_wp2_with fail
    refine (deep_any e.1 HZ.out _).mono ?_
    rintro r w1 ⟨rfl, hb⟩
    rw [HN.out]
    have HB1 := Lib.hid (HB0.out.trans (hb.mono HB0.out.size))
    clear hb
    go_wp2
    go_ret
    exact ⟨by rw [HV.out]; rfl, HB1.out⟩
  · have g1 : (n == 1) = false := beq_eq_false_iff_ne.2 h1
    have HV := Lib.hid (inD_fnd (e := e) HA.out (fun h => h1 (HPR.out.1 h)))
    clear h1
    go_enter Try.func28, Try.ntmps28
    go_wp2_with fail
    refine (deep_any e.1 HZ.out _).mono ?_
    rintro r w1 ⟨rfl, hb⟩
    rw [HN.out]
    have HB1 := Lib.hid (HB0.out.trans (hb.mono HB0.out.size))
    have HE1 := Lib.hid (RowN.below HE.out hb)
    have HR1 := Lib.hid (HR0.out.below hb)
    clear hb c0
    have c0 := HR1.out.c0
    go_wp2_with fail
    refine (HPG.out _).mono ?_
    rintro r w2 ⟨d, z, rfl, hd1, _, hb⟩
    have HB2 := Lib.hid (HB1.out.trans (hb.mono HB1.out.size))
    have HE2 := Lib.hid (RowN.below HE1.out hb)
    have HD := Lib.hid (hd1.trans HM5.out.symm)
    clear hb hd1 c0
    go_wp2_with fail
    refine (place9 l a cap d _ HE2.out HA.out HL.out).mono ?_
    rintro r w3 ⟨rfl, hb⟩
    rw [HD.out]
    have HB3 := Lib.hid (HB2.out.trans (hb.mono HB2.out.size))
    have HE3 := Lib.hid (RowN.below HE2.out hb)
    clear hb
    cases hf : fnd l (par9 (pl e)) with
    | none =>
      rw [hf] at HV
      rw [show (none : Option Ent).isSome = false from rfl]
      clear hf
      go_wp2
      go_ret
      exact ⟨by rw [HV.out]; rfl, HB3.out⟩
    | some x =>
      rw [hf] at HV
      rw [show (some x).isSome = true from rfl]
      obtain ⟨hk, hx, _⟩ := plc_some HA.out hf
      obtain ⟨K, hK⟩ : ∃ K, plc l (par9 (pl e)) = K := ⟨_, rfl⟩
      simp only [hK] at hk hx
      rw [hK]
      obtain ⟨b, off, rfl, _, hc⟩ := Ents.at HE3.out (Below.refl _ _) hk
      rw [hx] at hc
      have c0 := hc.c0
      have c1 := hc.c1
      have c2 := hc.c2
      have hk' : (K : Int) < (l.length : Int) := by omega
      clear hf hK hx hc
      go_wp2_with fail
      refine (holds8 x.1 x.2.2 x.2.1 _).mono ?_
      rintro r w4 ⟨rfl, hb⟩
      have HB4 := Lib.hid (HB3.out.trans (hb.mono HB3.out.size))
      have HV2 := Lib.hid (show decide (inD l e) = (x.2.1 == 2 || x.2.1 == 4) from HV.out)
      obtain ⟨q, hq⟩ : ∃ q, (x.2.1 == 2 || x.2.1 == 4) = q := ⟨_, rfl⟩
      rw [hq] at HV2 ⊢
      clear hb hq HV
      go_wp2
      go_ret
      exact ⟨by rw [HV2.out]; rfl, HB4.out⟩
end Go.Proofs.Ytkannambildnoaa

namespace Go.Proofs.Ytkannambildnoaa
open Go.RowKit

theorem rl_no {l : List Ent} {k : Nat} (h : ¬ RL (l.take (k + 1))) : decide (RightL l) = false := decide_eq_false fun hr => h (rl_take hr.2 _)
theorem last_take9 {l : List Ent} {k j : Nat} (hk : k < l.length) (hj : k = j + 1) : (l.take k).getLast? = some (l[j]'(by omega)) := by
  subst hj
  rw [take_get l j (by omega), List.getLast?_concat]
attribute [local go_sem ↓] old_ldi old_lds old_lde3
attribute [local go_sem] oldC_forall isC1_ptr isS1_ptr c1V_ptr isE3_ptr e3V_ptr
set_option maxRecDepth 10000 in
set_option maxHeartbeats 4000000 in
theorem right9 (l : List Ent) (a : Option Addr) (cap : Nat) (w : World) (h : Ents w a cap l) (hs : Sm l) : Calls Try.prog 15 #[.slice a l.length cap] w fun e w' => e = .returned (.bool (decide (RightL l))) ∧ Below w.heap.size w w' := by
  obtain ⟨R, hR⟩ : ∃ R, decide (RightL l) = R := ⟨_, rfl⟩
  rw [hR]
  have HR := Lib.hid hR
  clear hR
  by_cases h64 : l.length ≤ 64
  · have g64 : ¬ (64 : Int) < (l.length : Int) := by omega
    have HE := Lib.hid h
    have HS := Lib.hid hs
    have HL := Lib.hid h64
    have HCAP := Lib.hid h.1
    clear h hs
    go_enter Try.func15, Try.ntmps15
    go_wp2
    go_loopg [10] l.length (fun g i wx => ∃ k : Nat, i = .int .i64 (k : Int) ∧ k + g = l.length ∧ Hid (RL (l.take k)) ∧ Hid (Below w.heap.size w wx))
    case atStart => exact ⟨0, rfl, by omega, by simpa [Hid] using rl_nil, Below.refl _ _⟩
    case round =>
      obtain ⟨k, rfl, hk, HI, HB⟩ := hrel
      have hw : IntKind.i64.wrap ((k : Int) + 1) = (k : Int) + 1 := IntWalk.i64_in _ (by omega)
      by_cases hlt : k < l.length
      · have hlt' : (k : Int) < (l.length : Int) := by omega
        have hkc : (k : Int) ≤ (cap : Int) := by have := HCAP.out; omega
        obtain ⟨b, off, rfl, hb, hc⟩ := HE.out.at HB.out hlt
        have HEr := Lib.hid (RowN.below HE.out HB.out)
        have HT := Lib.hid (take_get l k hlt)
        have HZ := Lib.hid (HS.out.2 _ (List.getElem_mem hlt))
        have HLT := Lib.hid (fun j (hj : k = j + 1) => last_take9 hlt hj)
        have HNO := Lib.hid (fun h => rl_no (l := l) (k := k) h)
        obtain ⟨x, hx⟩ : ∃ x, l[k] = x := ⟨_, rfl⟩
        rw [hx] at hc HT HZ
        have HXK := Lib.hid hx
        have c0 := hc.c0
        have c1 := hc.c1
        have c2 := hc.c2
        obtain ⟨W, hW⟩ : ∃ W, wr.alloc (.cells #[.string x.1, .int .i64 x.2.1, .string x.2.2] 34) = W := ⟨_, rfl⟩
        obtain ⟨M, hM⟩ : ∃ M, wr.heap.size = M := ⟨_, rfl⟩
        have hbW : Below wr.heap.size wr W := by rw [← hW]; exact (Below.refl _ _).alloc (Nat.le_refl _) _
        have HBW := Lib.hid (HB.out.trans (hbW.mono HB.out.size))
        have HQ := Lib.hid (show EnAt W M x.1 x.2.1 x.2.2 by rw [← hW, ← hM]; exact enAt_new _ _ _ _)
        have HEW := Lib.hid (RowN.below HEr.out hbW)
        have q0 := HQ.out.c0
        have q1 := HQ.out.c1
        have q2 := HQ.out.c2
        have H1 : Hid (∀ w0 w', OldC w0 w' → Calls Try.prog 23 #[entV x.1 x.2.1 x.2.2] w' fun r w'' => r = .returned (.bool (rE x)) ∧ OldC w0 w'') := fun w0 w' hw' => by
          refine (right8 x.1 x.2.1 x.2.2 (by have := HZ.out; unfold maxLen; omega) w').mono ?_
          rintro r w'' ⟨rfl, hb⟩
          exact ⟨rfl, hw'.then hb⟩
        have H2 : Hid (∀ y : Ent, ∀ w0 w', OldC w0 w' → Calls Try.prog 25 #[entV y.1 y.2.1 y.2.2, entV x.1 x.2.1 x.2.2] w' fun r w'' => r = .returned (.bool (lt8 (pl y) (pl x))) ∧ OldC w0 w'') := fun y w0 w' hw' => by
          refine (less8 y.1 x.1 y.2.2 x.2.2 y.2.1 x.2.1 w').mono ?_
          rintro r w'' ⟨rfl, hb⟩
          exact ⟨rfl, hw'.then hb⟩
        clear hc hx hb hbW
        cases hv : rE x with
        | false =>
          rw [hv] at H1
          have HX := Lib.hid (show R = false by
            rw [← HR.out]
            refine HNO.out fun h => ?_
            rw [HT.out, rl_snoc, hv] at h
            cases h.2.1)
          clear hv
          go_wp2_with fail
          refine wp_region_old (by kernel_rfl) (by kernel_rfl) ?_
          repeat (go_big_quiet_step ((first | (intro hw; with_reducible exact H1.out _ _ hw))))
          refine wpQuiet_nil ?_
          intro w3 hw3
          have HB3 := Lib.hid (show Below w.heap.size w w3 from HBW.out.trans (Below.mono hw3 HBW.out.size))
          clear hw3
          go_wp2
          go_ret
          exact ⟨by rw [HX.out]; rfl, HB3.out⟩
        | true =>
          rw [hv] at H1
          have HVX := Lib.hid hv
          clear hv
          have called : (decide (0 < k) = false ∧ ∀ y, (l.take k).getLast? = some y → lt8 (pl y) (pl x) = true) ∨ (decide (0 < k) = true ∧ ∃ (j : Nat) (y : Ent), (k : Int) - 1 = (j : Int) ∧ (l.take k).getLast? = some y ∧ EnCells W b (off + j * 3) y ∧ (j : Int) < (l.length : Int)) := by
            by_cases h0 : 0 < k
            · refine .inr ⟨decide_eq_true h0, k - 1, l[k - 1]'(by omega), by omega, HLT.out (k - 1) (by omega), ?_, by omega⟩
              obtain ⟨b', off', e9, _, h9⟩ := Ents.at HEW.out (Below.refl _ _) (show k - 1 < l.length by omega)
              cases e9
              exact h9
            · refine .inl ⟨decide_eq_false h0, fun y hy => ?_⟩
              obtain rfl : k = 0 := by omega
              simp at hy
          rcases called with ⟨g0, hlast⟩ | ⟨g0, j, y, hj, hy, hcy, hjl⟩
          · have HLA := Lib.hid hlast
            clear hlast
            go_wp2_with fail
            refine wp_region_old (by kernel_rfl) (by kernel_rfl) ?_
            repeat (go_big_quiet_step ((first | (intro hw; with_reducible exact H1.out _ _ hw))))
            refine wpQuiet_nil ?_
            intro w3 hw3
            have HB3 := Lib.hid (show Below w.heap.size w w3 from HBW.out.trans (Below.mono hw3 HBW.out.size))
            have HQ3 := Lib.hid (HQ.out.below hw3)
            have HE3 := Lib.hid (RowN.below HEW.out hw3)
            clear hw3 q0 q1 q2 c0 c1 c2
            have q0 := HQ3.out.c0
            have q1 := HQ3.out.c1
            have q2 := HQ3.out.c2
            have H3 : Hid (∀ w', OldC w3 w' → Calls Try.prog 28 #[.slice (some ⟨b, off, none⟩) k cap, entV x.1 x.2.1 x.2.2] w' fun r w'' => r = .returned (.bool (decide (inD (l.take k) x))) ∧ OldC w3 w'') := fun w' hw' => by
              have hc := housed9 (l.take k) (some ⟨b, off, none⟩) cap x w' (Ents.take (RowN.below HE3.out hw') k) HI.out.2.1 (by rw [List.length_take]; omega) HVX.out
              rw [List.length_take, Nat.min_eq_left (by omega)] at hc
              refine hc.mono ?_
              rintro r w'' ⟨rfl, hb⟩
              exact ⟨rfl, hw'.then hb⟩
            by_cases hin : inD (l.take k) x
            · rw [decide_eq_true hin] at H3
              have HN := Lib.hid (show RL (l.take (k + 1)) by rw [HT.out, rl_snoc]; exact ⟨HI.out, HVX.out, HLA.out, hin⟩)
              clear hin
              go_wp2_with fail
              refine wp_region_old (by kernel_rfl) (by kernel_rfl) ?_
              repeat (go_big_quiet_step ((first | (intro hw; with_reducible exact H3.out _ hw))))
              refine wpQuiet_nil ?_
              intro w4 hw4
              have HB4 := Lib.hid (show Below w.heap.size w w4 from HB3.out.trans (Below.mono hw4 HB3.out.size))
              clear hw4
              go_wp2
              go_roundg (gk - 1)
              case measure => omega
              case rel => exact ⟨k + 1, by simp, by omega, HN.out, HB4.out⟩
            · rw [decide_eq_false hin] at H3
              have HX := Lib.hid (show R = false by
                rw [← HR.out]
                refine HNO.out fun h => ?_
                rw [HT.out, rl_snoc] at h
                exact hin h.2.2.2)
              clear hin
              go_wp2_with fail
              refine wp_region_old (by kernel_rfl) (by kernel_rfl) ?_
              repeat (go_big_quiet_step ((first | (intro hw; with_reducible exact H3.out _ hw))))
              refine wpQuiet_nil ?_
              intro w4 hw4
              have HB4 := Lib.hid (show Below w.heap.size w w4 from HB3.out.trans (Below.mono hw4 HB3.out.size))
              clear hw4
              go_wp2
              go_ret
              exact ⟨by rw [HX.out]; rfl, HB4.out⟩
          · have y0 := hcy.c0
            have y1 := hcy.c1
            have y2 := hcy.c2
            have HY := Lib.hid hy
            have hwj : IntKind.i64.wrap (j : Int) = (j : Int) := IntWalk.i64_in _ (by omega)
            clear hcy hy
            cases hv : lt8 (pl y) (pl x) with
            | false =>
              have H2y := Lib.hid (H2.out y)
              rw [hv] at H2y
              have HX := Lib.hid (show R = false by
                rw [← HR.out]
                refine HNO.out fun h => ?_
                rw [HT.out, rl_snoc] at h
                have := h.2.2.1 y HY.out
                rw [hv] at this
                cases this)
              clear hv
              go_wp2_with fail
              refine wp_region_old (by kernel_rfl) (by kernel_rfl) ?_
              repeat (go_big_quiet_step ((first | (intro hw; with_reducible exact H1.out _ _ hw) | (intro hw; with_reducible exact H2y.out _ _ hw))))
              refine wpQuiet_nil ?_
              intro w3 hw3
              have HB3 := Lib.hid (show Below w.heap.size w w3 from HBW.out.trans (Below.mono hw3 HBW.out.size))
              clear hw3
              go_wp2
              go_ret
              exact ⟨by rw [HX.out]; rfl, HB3.out⟩
            | true =>
              have H2y := Lib.hid (H2.out y)
              rw [hv] at H2y
              have HLA := Lib.hid (show ∀ z, (l.take k).getLast? = some z → lt8 (pl z) (pl x) = true from fun z hz => by
                have := HY.out.symm.trans hz
                cases this
                exact hv)
              clear hv
              go_wp2_with fail
              refine wp_region_old (by kernel_rfl) (by kernel_rfl) ?_
              repeat (go_big_quiet_step ((first | (intro hw; with_reducible exact H1.out _ _ hw) | (intro hw; with_reducible exact H2y.out _ _ hw))))
              refine wpQuiet_nil ?_
              intro w3 hw3
              have HB3 := Lib.hid (show Below w.heap.size w w3 from HBW.out.trans (Below.mono hw3 HBW.out.size))
              clear y0 y1 y2
              have HQ3 := Lib.hid (HQ.out.below hw3)
              have HE3 := Lib.hid (RowN.below HEW.out hw3)
              clear hw3 q0 q1 q2 c0 c1 c2
              have q0 := HQ3.out.c0
              have q1 := HQ3.out.c1
              have q2 := HQ3.out.c2
              have H3 : Hid (∀ w', OldC w3 w' → Calls Try.prog 28 #[.slice (some ⟨b, off, none⟩) k cap, entV x.1 x.2.1 x.2.2] w' fun r w'' => r = .returned (.bool (decide (inD (l.take k) x))) ∧ OldC w3 w'') := fun w' hw' => by
                have hc := housed9 (l.take k) (some ⟨b, off, none⟩) cap x w' (Ents.take (RowN.below HE3.out hw') k) HI.out.2.1 (by rw [List.length_take]; omega) HVX.out
                rw [List.length_take, Nat.min_eq_left (by omega)] at hc
                refine hc.mono ?_
                rintro r w'' ⟨rfl, hb⟩
                exact ⟨rfl, hw'.then hb⟩
              by_cases hin : inD (l.take k) x
              · rw [decide_eq_true hin] at H3
                have HN := Lib.hid (show RL (l.take (k + 1)) by rw [HT.out, rl_snoc]; exact ⟨HI.out, HVX.out, HLA.out, hin⟩)
                clear hin
                go_wp2_with fail
                refine wp_region_old (by kernel_rfl) (by kernel_rfl) ?_
                repeat (go_big_quiet_step ((first | (intro hw; with_reducible exact H3.out _ hw))))
                refine wpQuiet_nil ?_
                intro w4 hw4
                have HB4 := Lib.hid (show Below w.heap.size w w4 from HB3.out.trans (Below.mono hw4 HB3.out.size))
                clear hw4
                go_wp2
                go_roundg (gk - 1)
                case measure => omega
                case rel => exact ⟨k + 1, by simp, by omega, HN.out, HB4.out⟩
              · rw [decide_eq_false hin] at H3
                have HX := Lib.hid (show R = false by
                  rw [← HR.out]
                  refine HNO.out fun h => ?_
                  rw [HT.out, rl_snoc] at h
                  exact hin h.2.2.2)
                clear hin
                go_wp2_with fail
                refine wp_region_old (by kernel_rfl) (by kernel_rfl) ?_
                repeat (go_big_quiet_step ((first | (intro hw; with_reducible exact H3.out _ hw))))
                refine wpQuiet_nil ?_
                intro w4 hw4
                have HB4 := Lib.hid (show Below w.heap.size w w4 from HB3.out.trans (Below.mono hw4 HB3.out.size))
                clear hw4
                go_wp2
                go_ret
                exact ⟨by rw [HX.out]; rfl, HB4.out⟩
      · have hlt' : ¬ (k : Int) < (l.length : Int) := by omega
        have HX := Lib.hid (show R = true by
          rw [← HR.out]
          have := HI.out
          rw [List.take_of_length_le (by omega)] at this
          exact decide_eq_true ⟨HL.out, this⟩)
        go_wp2
        go_ret
        exact ⟨by rw [HX.out]; rfl, HB.out⟩
  · have g64 : (64 : Int) < (l.length : Int) := by omega
    have HX := Lib.hid (show R = false by rw [← HR.out]; exact decide_eq_false fun h => h64 h.1)
    clear h hs h64
    go_enter Try.func15, Try.ntmps15
    go_wp2
    go_ret
    exact ⟨by rw [HX.out]; rfl, Below.refl _ _⟩
end Go.Proofs.Ytkannambildnoaa

namespace Go.Proofs.Ytkannambildnoaa
open Go.RowKit Go.Maps

/-- The directories that a map holds behind a list of entries. -/
def dset (l : List Ent) : List UInt8 → Option Value := l.foldl (fun f e => if hd e = true then fun x => if x = pl e then some (.agg #[]) else f x else f) fun x => if x = [47] then some (.agg #[]) else none
theorem dset_snoc (l : List Ent) (e : Ent) : dset (l ++ [e]) = if hd e = true then fun x => if x = pl e then some (.agg #[]) else dset l x else dset l := by unfold dset; rw [List.foldl_append]; rfl
theorem dset_some (l : List Ent) (p : List UInt8) : dset l p = if p = [47] ∨ ∃ d ∈ l, pl d = p ∧ hd d = true then some (.agg #[]) else none := by
  have key : ∀ n (l : List Ent), l.length = n → dset l p = if p = [47] ∨ ∃ d ∈ l, pl d = p ∧ hd d = true then some (.agg #[]) else none := by
    intro n
    induction n with
    | zero =>
      intro l hl
      rw [List.length_eq_zero_iff.1 hl]
      simp [dset]
    | succ n ih =>
      intro l hl
      rcases List.eq_nil_or_concat l with rfl | ⟨r, e, rfl⟩
      · simp at hl
      · rw [List.concat_eq_append] at *
        have ih := ih r (by simpa using hl)
        rw [dset_snoc]
        by_cases he : hd e = true
        · rw [if_pos he]
          show (if p = pl e then some (.agg #[]) else dset r p) = _
          by_cases hp : p = pl e
          · rw [if_pos hp, if_pos (.inr ⟨e, by simp, hp.symm, he⟩)]
          · rw [if_neg hp, ih]
            congr 1
            rw [eq_iff_iff]
            refine or_congr_right ⟨fun ⟨d, h1, h2⟩ => ⟨d, by simp [h1], h2⟩, fun ⟨d, h1, h2⟩ => ?_⟩
            rcases List.mem_append.1 h1 with h1 | h1
            · exact ⟨d, h1, h2⟩
            · obtain rfl : d = e := by simpa using h1
              exact absurd h2.1.symm hp
        · rw [if_neg he, ih]
          congr 1
          rw [eq_iff_iff]
          refine or_congr_right ⟨fun ⟨d, h1, h2⟩ => ⟨d, by simp [h1], h2⟩, fun ⟨d, h1, h2⟩ => ?_⟩
          rcases List.mem_append.1 h1 with h1 | h1
          · exact ⟨d, h1, h2⟩
          · obtain rfl : d = e := by simpa using h1
            exact absurd h2.2 he
  exact key _ l rfl
theorem dset_in (l : List Ent) (e : Ent) : (dset l (par9 (pl e))).isSome = decide (inD l e) := by
  rw [dset_some]
  by_cases h : inD l e
  · have h' : par9 (pl e) = [47] ∨ ∃ d ∈ l, pl d = par9 (pl e) ∧ hd d = true := h
    rw [if_pos h', decide_eq_true h]; rfl
  · have h' : ¬ (par9 (pl e) = [47] ∨ ∃ d ∈ l, pl d = par9 (pl e) ∧ hd d = true) := h
    rw [if_neg h', decide_eq_false h]; rfl
theorem dset_get (l : List Ent) (p : List UInt8) : (dset l p).getD (.agg #[]) = .agg #[] := by rw [dset_some]; split <;> rfl
theorem tr_snoc {l : List Ent} {e : Ent} : TR (l ++ [e]) ↔ TR l ∧ rE e = true ∧ e.2.1 ≤ 2 ∧ (∀ a, l.getLast? = some a → lt8 (pl a) (pl e) = true) ∧ inD l e := by
  unfold TR
  rw [rl_snoc]
  constructor
  · rintro ⟨⟨h1, h2, h3, h4⟩, h5⟩
    exact ⟨⟨h1, fun x hx => h5 x (by simp [hx])⟩, h2, h5 e (by simp), h3, h4⟩
  · rintro ⟨⟨h1, h6⟩, h2, h5, h3, h4⟩
    refine ⟨⟨h1, h2, h3, h4⟩, fun x hx => ?_⟩
    rcases List.mem_append.1 hx with hx | hx
    · exact h6 x hx
    · obtain rfl : x = e := by simpa using hx
      exact h5
theorem tr_takeC {l : List Ent} (h : TR l) (n : Nat) : TR (l.take n) := ⟨rl_take h.1 n, fun x hx => h.2 x (List.mem_of_mem_take hx)⟩
theorem tr_no {l : List Ent} {k : Nat} (h : ¬ TR (l.take (k + 1))) : decide (TreeL l) = false := decide_eq_false fun hr => h (tr_takeC hr.2 _)
attribute [local go_sem ↓] old_ldi old_lds old_lde3
attribute [local go_sem] oldC_forall isC1_ptr isS1_ptr c1V_ptr isE3_ptr e3V_ptr
set_option maxRecDepth 10000 in
set_option maxHeartbeats 4000000 in
theorem tree10 (l : List Ent) (a : Option Addr) (cap : Nat) (w : World) (h : Ents w a cap l) (hs : Sm l) : Calls Try.prog 13 #[.slice a l.length cap] w fun e w' => e = .returned (.bool (decide (TreeL l))) ∧ Below w.heap.size w w' := by
  obtain ⟨R, hR⟩ : ∃ R, decide (TreeL l) = R := ⟨_, rfl⟩
  rw [hR]
  have HR := Lib.hid hR
  have hmm := @run_makeMap Try.prog
  have g64 : ¬ (1024 : Int) < (l.length : Int) := by have := hs.1; omega
  have hz : ∀ W, (zeroValue 39).run Try.prog W = .ok (.agg #[]) W := by intro W; kernel_rfl
  obtain ⟨m, hm⟩ : ∃ m, w.heap.size = m := ⟨_, rfl⟩
  have hb0 : Below w.heap.size w (w.alloc (.map #[] 0)) := (Below.refl _ _).alloc (Nat.le_refl _) _
  obtain ⟨V0, hV0⟩ : ∃ V0, w.alloc (.map #[] 0) = V0 := ⟨_, rfl⟩
  have hM0 : MapS Try.prog 9 V0 m 0 fun _ => none := by rw [← hV0, ← hm]; exact mapS_made Try.prog 9 w
  rw [hV0] at hb0
  obtain ⟨V, hput, hMV, hgV⟩ := hM0.put (t := 40) (e := 39) Try.underlying9 Try.underlying40 (by unfold maxLen; omega) (i := ⟨#[47]⟩) (by decide) (.agg #[])
  have HMV := Lib.hid (show MapS Try.prog 9 V m 1 (dset []) from hMV)
  have HBV := Lib.hid (show Below m w V by
    rw [hm] at hb0
    exact hb0.grown hgV (by rw [← hm]; exact hb0.size) fun j hj => by cases hj; exact Nat.le_refl _)
  have HME := Lib.hid hm
  have HE := Lib.hid h
  have HS := Lib.hid hs
  have HCAP := Lib.hid h.1
  rw [hm]
  clear h hs hR hb0 hM0 hMV hgV
  go_enter Try.func13, Try.ntmps13
  go_wp2
  go_loopg [19] l.length (fun g i wx => ∃ k : Nat, i = .int .i64 (k : Int) ∧ k + g = l.length ∧ Hid (TR (l.take k)) ∧ Hid (MapS Try.prog 9 wx m (k + 1) (dset (l.take k))) ∧ Hid (Below m w wx))
  case atStart => exact ⟨0, rfl, by omega, by simpa [Hid] using tr_nil, HMV.out, HBV.out⟩
  case round =>
    obtain ⟨k, rfl, hk, HI, HM, HB⟩ := hrel
    have hw : IntKind.i64.wrap ((k : Int) + 1) = (k : Int) + 1 := IntWalk.i64_in _ (by omega)
    by_cases hlt : k < l.length
    · have hlt' : (k : Int) < (l.length : Int) := by omega
      have hkc : (k : Int) ≤ (cap : Int) := by have := HCAP.out; omega
      obtain ⟨b, off, rfl, hb, hc⟩ := HE.out.at (show Below w.heap.size w wr by rw [HME.out]; exact HB.out) hlt
      have HEr := Lib.hid (RowN.below HE.out (show Below w.heap.size w wr by rw [HME.out]; exact HB.out))
      have HT := Lib.hid (take_get l k hlt)
      have HDS := Lib.hid (show dset (l.take (k + 1)) = if hd l[k] = true then fun z => if z = pl l[k] then some (.agg #[]) else dset (l.take k) z else dset (l.take k) by rw [take_get l k hlt, dset_snoc])
      have HZ := Lib.hid (HS.out.2 _ (List.getElem_mem hlt))
      have HLT := Lib.hid (fun j (hj : k = j + 1) => last_take9 hlt hj)
      have HNO := Lib.hid (fun h => tr_no (l := l) (k := k) h)
      obtain ⟨x, hx⟩ : ∃ x, l[k] = x := ⟨_, rfl⟩
      rw [hx] at hc HT HZ HDS
      have c0 := hc.c0
      have c1 := hc.c1
      have c2 := hc.c2
      obtain ⟨W, hW⟩ : ∃ W, wr.alloc (.cells #[.string x.1, .int .i64 x.2.1, .string x.2.2] 34) = W := ⟨_, rfl⟩
      obtain ⟨M, hM⟩ : ∃ M, wr.heap.size = M := ⟨_, rfl⟩
      have hbW : Below wr.heap.size wr W := by rw [← hW]; exact (Below.refl _ _).alloc (Nat.le_refl _) _
      have HMR := Lib.hid (show m ≤ wr.heap.size by have := HB.out.size; have := HME.out; omega)
      have HBW := Lib.hid (HB.out.trans (hbW.mono HMR.out))
      have HMW := Lib.hid (show m ≤ W.heap.size by have := hbW.size; have := HMR.out; omega)
      have HMP := Lib.hid (HM.out.below hbW)
      have HQ := Lib.hid (show EnAt W M x.1 x.2.1 x.2.2 by rw [← hW, ← hM]; exact enAt_new _ _ _ _)
      have HEW := Lib.hid (RowN.below HEr.out hbW)
      have q0 := HQ.out.c0
      have q1 := HQ.out.c1
      have q2 := HQ.out.c2
      have H1 : Hid (∀ w0 w', OldC w0 w' → Calls Try.prog 23 #[entV x.1 x.2.1 x.2.2] w' fun r w'' => r = .returned (.bool (rE x)) ∧ OldC w0 w'') := fun w0 w' hw' => by
        refine (right8 x.1 x.2.1 x.2.2 (by have := HZ.out; unfold maxLen; omega) w').mono ?_
        rintro r w'' ⟨rfl, hb⟩
        exact ⟨rfl, hw'.then hb⟩
      have H4 : Hid (∀ w0 w', OldC w0 w' → Calls Try.prog 24 #[entV x.1 x.2.1 x.2.2] w' fun r w'' => r = .returned (.bool (x.2.1 == 1 || x.2.1 == 2)) ∧ OldC w0 w'') := fun w0 w' hw' => by
        refine (plain10 x w').mono ?_
        rintro r w'' ⟨rfl, hb⟩
        exact ⟨rfl, hw'.then hb⟩
      have H2 : Hid (∀ y : Ent, ∀ w0 w', OldC w0 w' → Calls Try.prog 25 #[entV y.1 y.2.1 y.2.2, entV x.1 x.2.1 x.2.2] w' fun r w'' => r = .returned (.bool (lt8 (pl y) (pl x))) ∧ OldC w0 w'') := fun y w0 w' hw' => by
        refine (less8 y.1 x.1 y.2.2 x.2.2 y.2.1 x.2.1 w').mono ?_
        rintro r w'' ⟨rfl, hb⟩
        exact ⟨rfl, hw'.then hb⟩
      clear hc hx hb hbW
      cases hv : rE x with
      | false =>
        rw [hv] at H1
        have HX := Lib.hid (show R = false by
          rw [← HR.out]
          refine HNO.out fun h => ?_
          rw [HT.out, tr_snoc, hv] at h
          cases h.2.1)
        clear hv
        go_wp2_with fail
        refine wp_region_old (by kernel_rfl) (by kernel_rfl) ?_
        repeat (go_big_quiet_step ((first | (intro hw; with_reducible exact H1.out _ _ hw))))
        refine wpQuiet_nil ?_
        intro w3 hw3
        have HB3 := Lib.hid (show Below m w w3 from HBW.out.trans (Below.mono hw3 HMW.out))
        clear hw3
        go_wp2
        go_ret
        exact ⟨by rw [HX.out]; rfl, HB3.out⟩
      | true =>
        rw [hv] at H1
        have HVX := Lib.hid hv
        clear hv
        cases hpv : (x.2.1 == 1 || x.2.1 == 2) with
        | false =>
          rw [hpv] at H4
          have HX := Lib.hid (show R = false by
            rw [← HR.out]
            refine HNO.out fun h => ?_
            rw [HT.out, tr_snoc] at h
            have hk9 := kind_of HVX.out
            have h9 := h.2.2.1
            have : x.2.1 = 1 ∨ x.2.1 = 2 := by omega
            rcases this with h | h <;> rw [h] at hpv <;> cases hpv)
          clear hpv
          go_wp2_with fail
          refine wp_region_old (by kernel_rfl) (by kernel_rfl) ?_
          repeat (go_big_quiet_step ((first | (intro hw; with_reducible exact H1.out _ _ hw) | (intro hw; with_reducible exact H4.out _ _ hw))))
          refine wpQuiet_nil ?_
          intro w3 hw3
          have HB3 := Lib.hid (show Below m w w3 from HBW.out.trans (Below.mono hw3 HMW.out))
          clear hw3
          go_wp2
          go_ret
          exact ⟨by rw [HX.out]; rfl, HB3.out⟩
        | true =>
          rw [hpv] at H4
          have HK2 := Lib.hid (show x.2.1 ≤ 2 by
            rw [Bool.or_eq_true, beq_iff_eq, beq_iff_eq] at hpv
            omega)
          have HPX := Lib.hid (rE_isP HVX.out)
          clear hpv
          have called : (decide (0 < k) = false ∧ ∀ y, (l.take k).getLast? = some y → lt8 (pl y) (pl x) = true) ∨ (decide (0 < k) = true ∧ ∃ (j : Nat) (y : Ent), (k : Int) - 1 = (j : Int) ∧ (l.take k).getLast? = some y ∧ EnCells W b (off + j * 3) y ∧ (j : Int) < (l.length : Int)) := by
            by_cases h0 : 0 < k
            · refine .inr ⟨decide_eq_true h0, k - 1, l[k - 1]'(by omega), by omega, HLT.out (k - 1) (by omega), ?_, by omega⟩
              obtain ⟨b', off', e9, _, h9⟩ := Ents.at HEW.out (Below.refl _ _) (show k - 1 < l.length by omega)
              cases e9
              exact h9
            · refine .inl ⟨decide_eq_false h0, fun y hy => ?_⟩
              obtain rfl : k = 0 := by omega
              simp at hy
          rcases called with ⟨g0, hlast⟩ | ⟨g0, j, y, hj, hy, hcy, hjl⟩
          · have HLA := Lib.hid hlast
            clear hlast
            go_wp2_with fail
            refine wp_region_old (by kernel_rfl) (by kernel_rfl) ?_
            repeat (go_big_quiet_step ((first | (intro hw; with_reducible exact H1.out _ _ hw) | (intro hw; with_reducible exact H4.out _ _ hw))))
            refine wpQuiet_nil ?_
            intro w3 hw3
            have HB3 := Lib.hid (show Below m w w3 from HBW.out.trans (Below.mono hw3 HMW.out))
            have HM3 := Lib.hid (show m ≤ w3.heap.size from Nat.le_trans HMW.out (Below.size hw3))
            have HQ3 := Lib.hid (HQ.out.below hw3)
            replace HMP := Lib.hid (HMP.out.below hw3)
            clear hw3 q0 q1 q2 c0 c1 c2
            have q0 := HQ3.out.c0
            go_wp2_with fail
            refine (par10 x.1 HPX.out.1 _).mono ?_
            rintro r w4 ⟨d, nm, er, rfl, ho, hb⟩
            obtain ⟨h9, _⟩ | ⟨_, rfl, hd9⟩ := ho
            · exact absurd h9 HPX.out.2
            have HB4 := Lib.hid (HB3.out.trans (hb.mono HM3.out))
            have HM4 := Lib.hid (show m ≤ w4.heap.size from Nat.le_trans HM3.out hb.size)
            replace HMP := Lib.hid (HMP.out.below hb)
            replace HQ3 := Lib.hid (HQ3.out.below hb)
            clear q0 hb
            have hd54 := isP_len (par9_isP HPX.out.1 HPX.out.2).1
            rw [← hd9, ← Lib.size_eq] at hd54
            have hlk := (MapS.look HMP.out Try.underlying9 (t := 40) (e := 39) Try.underlying40 (hz w4) (i := d) (by unfold maxLen; omega)).2
            rw [hd9, dset_get, dset_in] at hlk
            clear hd9 hd54
            obtain ⟨U, hU⟩ : ∃ U, w4.alloc (.cells #[] 39) = U := ⟨_, rfl⟩
            have hbU : Below w4.heap.size w4 U := by rw [← hU]; exact (Below.refl _ _).alloc (Nat.le_refl _) _
            have HBU := Lib.hid (HB4.out.trans (hbU.mono HM4.out))
            have HMU := Lib.hid (show m ≤ U.heap.size from Nat.le_trans HM4.out hbU.size)
            replace HMP := Lib.hid (HMP.out.below hbU)
            replace HQ3 := Lib.hid (HQ3.out.below hbU)
            clear hbU
            by_cases hin : inD (l.take k) x
            · rw [decide_eq_true hin] at hlk
              have HN := Lib.hid (show TR (l.take (k + 1)) by rw [HT.out, tr_snoc]; exact ⟨HI.out, HVX.out, HK2.out, HLA.out, hin⟩)
              clear hin
              have q0 := HQ3.out.c0
              have q1 := HQ3.out.c1
              have q2 := HQ3.out.c2
              go_wp2_with fail
              refine (holds8 x.1 x.2.2 x.2.1 _).mono ?_
              rintro r w5 ⟨rfl, hb⟩
              have HB5 := Lib.hid (HBU.out.trans (hb.mono HMU.out))
              have HM5 := Lib.hid (show m ≤ w5.heap.size from Nat.le_trans HMU.out hb.size)
              replace HMP := Lib.hid (HMP.out.below hb)
              replace HQ3 := Lib.hid (HQ3.out.below hb)
              clear hb q0 q1 q2 hlk
              cases hh : (x.2.1 == 2 || x.2.1 == 4) with
              | false =>
                rw [if_neg (by show ¬ (x.2.1 == 2 || x.2.1 == 4) = true; rw [hh]; simp)] at HDS
                clear hh
                go_wp2
                go_roundg (gk - 1)
                case measure => omega
                case rel => exact ⟨k + 1, by simp, by omega, HN.out, by rw [HDS.out]; exact HMP.out.mono (Nat.le_succ _), HB5.out⟩
              | true =>
                rw [if_pos (by show (x.2.1 == 2 || x.2.1 == 4) = true; exact hh)] at HDS
                have q0 := HQ3.out.c0
                obtain ⟨w7, hput7, hm7, hg7⟩ := HMP.out.put (t := 40) (e := 39) Try.underlying9 Try.underlying40 (by have := HS.out.1; unfold maxLen; omega) (i := x.1) (by have := HZ.out; unfold maxLen; omega) (.agg #[])
                have HM7 := Lib.hid hm7
                have HB7 := Lib.hid (HB5.out.grown hg7 HM5.out fun j hj => by cases hj; exact Nat.le_refl _)
                clear hh hm7 hg7
                go_wp2
                go_roundg (gk - 1)
                case measure => omega
                case rel => exact ⟨k + 1, by simp, by omega, HN.out, by rw [HDS.out]; exact HM7.out, HB7.out⟩
            · rw [decide_eq_false hin] at hlk
              have HX := Lib.hid (show R = false by
                rw [← HR.out]
                refine HNO.out fun h => ?_
                rw [HT.out, tr_snoc] at h
                exact hin h.2.2.2.2)
              clear hin
              go_wp2
              go_ret
              exact ⟨by rw [HX.out]; rfl, HBU.out⟩
          · have y0 := hcy.c0
            have y1 := hcy.c1
            have y2 := hcy.c2
            have HY := Lib.hid hy
            have hwj : IntKind.i64.wrap (j : Int) = (j : Int) := IntWalk.i64_in _ (by omega)
            clear hcy hy
            cases hv : lt8 (pl y) (pl x) with
            | false =>
              have H2y := Lib.hid (H2.out y)
              rw [hv] at H2y
              have HX := Lib.hid (show R = false by
                rw [← HR.out]
                refine HNO.out fun h => ?_
                rw [HT.out, tr_snoc] at h
                have := h.2.2.2.1 y HY.out
                rw [hv] at this
                cases this)
              clear hv
              go_wp2_with fail
              refine wp_region_old (by kernel_rfl) (by kernel_rfl) ?_
              repeat (go_big_quiet_step ((first | (intro hw; with_reducible exact H1.out _ _ hw) | (intro hw; with_reducible exact H4.out _ _ hw) | (intro hw; with_reducible exact H2y.out _ _ hw))))
              refine wpQuiet_nil ?_
              intro w3 hw3
              have HB3 := Lib.hid (show Below m w w3 from HBW.out.trans (Below.mono hw3 HMW.out))
              clear hw3
              go_wp2
              go_ret
              exact ⟨by rw [HX.out]; rfl, HB3.out⟩
            | true =>
              have H2y := Lib.hid (H2.out y)
              rw [hv] at H2y
              have HLA := Lib.hid (show ∀ z, (l.take k).getLast? = some z → lt8 (pl z) (pl x) = true from fun z hz => by
                have := HY.out.symm.trans hz
                cases this
                exact hv)
              clear hv
              go_wp2_with fail
              refine wp_region_old (by kernel_rfl) (by kernel_rfl) ?_
              repeat (go_big_quiet_step ((first | (intro hw; with_reducible exact H1.out _ _ hw) | (intro hw; with_reducible exact H4.out _ _ hw) | (intro hw; with_reducible exact H2y.out _ _ hw))))
              refine wpQuiet_nil ?_
              intro w3 hw3
              clear y0 y1 y2
              have HB3 := Lib.hid (show Below m w w3 from HBW.out.trans (Below.mono hw3 HMW.out))
              have HM3 := Lib.hid (show m ≤ w3.heap.size from Nat.le_trans HMW.out (Below.size hw3))
              have HQ3 := Lib.hid (HQ.out.below hw3)
              replace HMP := Lib.hid (HMP.out.below hw3)
              clear hw3 q0 q1 q2 c0 c1 c2
              have q0 := HQ3.out.c0
              go_wp2_with fail
              refine (par10 x.1 HPX.out.1 _).mono ?_
              rintro r w4 ⟨d, nm, er, rfl, ho, hb⟩
              obtain ⟨h9, _⟩ | ⟨_, rfl, hd9⟩ := ho
              · exact absurd h9 HPX.out.2
              have HB4 := Lib.hid (HB3.out.trans (hb.mono HM3.out))
              have HM4 := Lib.hid (show m ≤ w4.heap.size from Nat.le_trans HM3.out hb.size)
              replace HMP := Lib.hid (HMP.out.below hb)
              replace HQ3 := Lib.hid (HQ3.out.below hb)
              clear q0 hb
              have hd54 := isP_len (par9_isP HPX.out.1 HPX.out.2).1
              rw [← hd9, ← Lib.size_eq] at hd54
              have hlk := (MapS.look HMP.out Try.underlying9 (t := 40) (e := 39) Try.underlying40 (hz w4) (i := d) (by unfold maxLen; omega)).2
              rw [hd9, dset_get, dset_in] at hlk
              clear hd9 hd54
              obtain ⟨U, hU⟩ : ∃ U, w4.alloc (.cells #[] 39) = U := ⟨_, rfl⟩
              have hbU : Below w4.heap.size w4 U := by rw [← hU]; exact (Below.refl _ _).alloc (Nat.le_refl _) _
              have HBU := Lib.hid (HB4.out.trans (hbU.mono HM4.out))
              have HMU := Lib.hid (show m ≤ U.heap.size from Nat.le_trans HM4.out hbU.size)
              replace HMP := Lib.hid (HMP.out.below hbU)
              replace HQ3 := Lib.hid (HQ3.out.below hbU)
              clear hbU
              by_cases hin : inD (l.take k) x
              · rw [decide_eq_true hin] at hlk
                have HN := Lib.hid (show TR (l.take (k + 1)) by rw [HT.out, tr_snoc]; exact ⟨HI.out, HVX.out, HK2.out, HLA.out, hin⟩)
                clear hin
                have q0 := HQ3.out.c0
                have q1 := HQ3.out.c1
                have q2 := HQ3.out.c2
                go_wp2_with fail
                refine (holds8 x.1 x.2.2 x.2.1 _).mono ?_
                rintro r w5 ⟨rfl, hb⟩
                have HB5 := Lib.hid (HBU.out.trans (hb.mono HMU.out))
                have HM5 := Lib.hid (show m ≤ w5.heap.size from Nat.le_trans HMU.out hb.size)
                replace HMP := Lib.hid (HMP.out.below hb)
                replace HQ3 := Lib.hid (HQ3.out.below hb)
                clear hb q0 q1 q2 hlk
                cases hh : (x.2.1 == 2 || x.2.1 == 4) with
                | false =>
                  rw [if_neg (by show ¬ (x.2.1 == 2 || x.2.1 == 4) = true; rw [hh]; simp)] at HDS
                  clear hh
                  go_wp2
                  go_roundg (gk - 1)
                  case measure => omega
                  case rel => exact ⟨k + 1, by simp, by omega, HN.out, by rw [HDS.out]; exact HMP.out.mono (Nat.le_succ _), HB5.out⟩
                | true =>
                  rw [if_pos (by show (x.2.1 == 2 || x.2.1 == 4) = true; exact hh)] at HDS
                  have q0 := HQ3.out.c0
                  obtain ⟨w7, hput7, hm7, hg7⟩ := HMP.out.put (t := 40) (e := 39) Try.underlying9 Try.underlying40 (by have := HS.out.1; unfold maxLen; omega) (i := x.1) (by have := HZ.out; unfold maxLen; omega) (.agg #[])
                  have HM7 := Lib.hid hm7
                  have HB7 := Lib.hid (HB5.out.grown hg7 HM5.out fun j hj => by cases hj; exact Nat.le_refl _)
                  clear hh hm7 hg7
                  go_wp2
                  go_roundg (gk - 1)
                  case measure => omega
                  case rel => exact ⟨k + 1, by simp, by omega, HN.out, by rw [HDS.out]; exact HM7.out, HB7.out⟩
              · rw [decide_eq_false hin] at hlk
                have HX := Lib.hid (show R = false by
                  rw [← HR.out]
                  refine HNO.out fun h => ?_
                  rw [HT.out, tr_snoc] at h
                  exact hin h.2.2.2.2)
                clear hin
                go_wp2
                go_ret
                exact ⟨by rw [HX.out]; rfl, HBU.out⟩
    · have hlt' : ¬ (k : Int) < (l.length : Int) := by omega
      have HX := Lib.hid (show R = true by
        rw [← HR.out]
        have := HI.out
        rw [List.take_of_length_le (by omega)] at this
        exact decide_eq_true ⟨by have := HS.out.1; omega, this⟩)
      go_wp2
      go_ret
      exact ⟨by rw [HX.out]; rfl, HB.out⟩
end Go.Proofs.Ytkannambildnoaa
