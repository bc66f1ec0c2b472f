/-
  The contract of package fold's gone: a closure that holds a map of a layer's kinds. Conditions: the layer lies in memory, has at most 1000 entries, paths of at most 100000 bytes.
-/
import Derived.Test.YtemnlolkmjdefaaGreatDoorS10Gone
import Derived.Test.YtemnlolkmjdefaaGreatDoorMapStr
import Derived.Test.YtemnlolkmjdefaaGreatDoorPc
import Derived.Deep.LoopGhost
import Derived.Lib.Hide
import Derived.IntWalk
namespace Go.Proofs.YtemnlolkmjdefaaGreatDoor
open Go.RowKit Go.Maps

/-- The map that a closure of gone's holds. -/
structure GoneAt (w : World) (B P : Nat) (l : List Ent) : Prop where
  low : B ≤ P ∧ P < w.heap.size
  cell : ∃ m n, w.cell? ⟨P, 0, none⟩ = some (.map (some m)) ∧ MapS Tryz.prog 9 w m n (kd l)
theorem GoneAt.below {w w' : World} {B P : Nat} {l : List Ent} (h : GoneAt w B P l) (hb : Below w.heap.size w w') : GoneAt w' B P l := by
  obtain ⟨h1, m, n, h2, h3⟩ := h
  exact ⟨⟨h1.1, Nat.lt_of_lt_of_le h1.2 hb.size⟩, m, n, (hb.cell (p := ⟨P, 0, none⟩) h1.2).trans h2, h3.below hb⟩
theorem take_sn {α : Type} (l : List α) (k : Nat) (h : k < l.length) : l.take (k + 1) = l.take k ++ [l[k]] := by rw [List.take_add_one, List.getElem?_eq_getElem h]; rfl
set_option maxRecDepth 10000 in
set_option maxHeartbeats 2000000 in
theorem gone10 (l : List Ent) (a : Option Addr) (cap : Nat) (w : World) (h : Ents w a cap l) (hs : Sm l) :
    Calls Tryz.prog 66 #[.slice a l.length cap] w fun e w' => ∃ P, e = .returned (.func (.func 106) #[] #[.pointer (some ⟨P, 0, none⟩)]) ∧ GoneAt w' w.heap.size P l ∧ Below w.heap.size w w' := by
  have hmm := @run_makeMap Tryz.prog
  obtain ⟨m, hm⟩ : ∃ m, w.heap.size = m := ⟨_, rfl⟩
  obtain ⟨V, hV⟩ : ∃ V, (w.alloc (.map #[] 0)).alloc (.cells #[.map (some m)] 153) = V := ⟨_, rfl⟩
  have hb0 : Below w.heap.size w (w.alloc (.map #[] 0)) := (Below.refl _ _).alloc (Nat.le_refl _) _
  have hb1 : Below (w.alloc (.map #[] 0)).heap.size (w.alloc (.map #[] 0)) V := by rw [← hV]; exact (Below.refl _ _).alloc (Nat.le_refl _) _
  have HBV := Lib.hid (hb0.trans (hb1.mono hb0.size))
  have HMV := Lib.hid ((mapS_made Tryz.prog 9 w).below hb1)
  have HCP := Lib.hid (show V.cell? ⟨m + 1, 0, none⟩ = some (.map (some m)) by rw [← hV, ← hm]; simp)
  have HLT := Lib.hid (show w.heap.size = m ∧ m + 1 < V.heap.size by rw [← hV]; simp; omega)
  have HE := Lib.hid h
  have HS := Lib.hid hs
  have HCAP := Lib.hid h.1
  rw [hm] at HMV HBV ⊢
  clear h hs hb0 hb1
  go_enter Tryz.func66, Tryz.ntmps66
  go_wp2
  go_loopg [9] l.length (fun g i wx => ∃ k : Nat, i = .int .i64 (k : Int) ∧ k + g = l.length ∧ Hid (wx.cell? ⟨m + 1, 0, none⟩ = some (.map (some m)) ∧ V.heap.size ≤ wx.heap.size) ∧ Hid (MapS Tryz.prog 9 wx m k (kd (l.take k))) ∧ Hid (Below m w wx))
  case atStart => exact ⟨0, rfl, by omega, ⟨HCP.out, Nat.le_refl _⟩, HMV.out, HBV.out⟩
  case round =>
    obtain ⟨k, rfl, hk, HC, HM, HB⟩ := hrel
    have hw : IntKind.i64.wrap ((k : Int) + 1) = (k : Int) + 1 := IntWalk.i64_in _ (by have := HS.out.1; omega)
    by_cases hlt : k < l.length
    · have hlt' : (k : Int) < (l.length : Int) := by omega
      obtain ⟨b, off, rfl, hb, hc⟩ := HE.out.at (show Below w.heap.size w wr by rw [HLT.out.1]; exact HB.out) hlt
      have HN := Lib.hid (show kd (l.take (k + 1)) = fun z => if z = pl l[k] then some (.int .i64 l[k].2.1) else kd (l.take k) z by rw [take_sn l k hlt, kd_snoc])
      have HZ := Lib.hid (HS.out.2 _ (List.getElem_mem hlt))
      obtain ⟨x, hx⟩ : ∃ x, l[k] = x := ⟨_, rfl⟩
      rw [hx] at hc HN HZ
      have c0 := hc.c0
      have c1 := hc.c1
      have c2 := hc.c2
      obtain ⟨W, hW⟩ : ∃ W, wr.alloc (.cells #[.string x.1, .int .i64 x.2.1, .string x.2.2] 41) = W := ⟨_, rfl⟩
      obtain ⟨M, hM⟩ : ∃ M, wr.heap.size = M := ⟨_, rfl⟩
      have hbW : Below wr.heap.size wr W := by rw [← hW]; exact (Below.refl _ _).alloc (Nat.le_refl _) _
      have hq : EnAt W M x.1 x.2.1 x.2.2 := by rw [← hW, ← hM]; exact enAt_new _ _ _ _
      have q0 := hq.c0
      have q1 := hq.c1
      have hcW : W.cell? ⟨m + 1, 0, none⟩ = some (.map (some m)) := (hbW.cell (p := ⟨m + 1, 0, none⟩) (show m + 1 < wr.heap.size by have := HC.out.2; have := HLT.out; omega)).trans HC.out.1
      obtain ⟨w7, hput, hm7, hg7⟩ := (HM.out.below hbW).put (t := 153) (e := 3) Tryz.underlying9 Tryz.underlying153 (by have := HS.out.1; unfold maxLen; omega) (i := x.1) (by have := HZ.out; unfold maxLen; omega) (.int .i64 x.2.1)
      have HM7 := Lib.hid hm7
      have HBW := Lib.hid ((HB.out.trans (hbW.mono (by have := HB.out.size; have := HLT.out; omega))).grown hg7 (by have := HB.out.size; have := hbW.size; have := HLT.out; omega) fun j hj => by cases hj; exact Nat.le_refl _)
      have HC7 := Lib.hid (show w7.cell? ⟨m + 1, 0, none⟩ = some (.map (some m)) ∧ V.heap.size ≤ w7.heap.size from ⟨by
        rw [← hcW]
        exact World.cell?_of_block (hg7.block (m + 1) (by have := hbW.size; have := HC.out.2; have := HLT.out; omega) (by intro e; have := Option.some.inj e; omega)), by have := hg7.size; have := hbW.size; have := HC.out.2; omega⟩)
      clear hc hx hb hbW hq hm7 hg7
      go_wp2
      go_roundg (gk - 1)
      case measure => omega
      case rel => exact ⟨k + 1, by simp, by omega, HC7.out, by rw [HN.out]; exact HM7.out, HBW.out⟩
    · have hlt' : ¬ (k : Int) < (l.length : Int) := by omega
      have HV := Lib.hid (show l.take k = l from List.take_of_length_le (by omega))
      go_wp2
      go_ret
      exact ⟨m + 1, rfl, ⟨⟨by have := HLT.out; omega, by have := HC.out.2; have := HLT.out; omega⟩, m, k, HC.out.1, by rw [← HV.out]; exact HM.out⟩, HB.out⟩
end Go.Proofs.YtemnlolkmjdefaaGreatDoor
