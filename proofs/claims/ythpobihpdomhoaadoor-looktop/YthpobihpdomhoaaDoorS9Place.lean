/-
  Contracts of sort.Search with package layer's closure, and of layer.place: where in a rising list an entry at a path stands or would stand, and whether one does. Conditions: the list lies in memory, rises, has at most 1000 entries.
-/
import Derived.Test.YthpobihpdomhoaaDoorPd
import Derived.Test.YthpobihpdomhoaaDoorPc
import Derived.Deep.LoopGhost
import Derived.Lib.Hide
import Derived.IntWalk
import Derived.BigQuiet
import Derived.Laws.Cover1
namespace Go.Proofs.YthpobihpdomhoaaDoor
open Go.RowKit

theorem geq_str (t : TypeId) (a b : ByteArray) : binOp .geq t (.string a) (.string b) = pure (.bool !(Op.bytesLess a.toList b.toList)) := by simp [binOp, Op.stringOp]
attribute [local go_sem] geq_str
set_option maxRecDepth 10000 in
set_option maxHeartbeats 1000000 in
theorem clo9 (l : List Ent) (a : Option Addr) (cap : Nat) (p : ByteArray) (ba bp i : Nat) (w : World) (hi : i < l.length) (ca : w.cell? ⟨ba, 0, none⟩ = some (.slice a l.length cap)) (cp : w.cell? ⟨bp, 0, none⟩ = some (.string p)) (h : Ents w a cap l) :
    Calls Tryd.prog 52 (#[.int .i64 (i : Int)] ++ #[.pointer (some ⟨ba, 0, none⟩), .pointer (some ⟨bp, 0, none⟩)]) w fun e w' => e = .returned (.bool (!lt8 (pl l[i]) p.data.toList)) ∧ Below w.heap.size w w' := by
  obtain ⟨b, off, rfl, hb, hc⟩ := Ents.at h (Below.refl _ _) hi
  obtain ⟨x, hx⟩ : ∃ x, l[i] = x := ⟨_, rfl⟩
  rw [hx] at hc ⊢
  have c0 := hc.c0
  have hi' : (i : Int) < (l.length : Int) := by omega
  clear hc hx hb h
  go_enter Tryd.func52, Tryd.ntmps52
  go_wp2
  go_quiet (fail)
  go_wp2
  go_ret
  exact ⟨by rw [Lib.toList_data, Lib.toList_data]; rfl, below_drewX (Below.refl _ _) _⟩
set_option maxRecDepth 10000 in
set_option maxHeartbeats 2000000 in
theorem search9 (cb : Array Value) (n K : Nat) (w : World) (hn : n ≤ 100000) (hK : K ≤ n)
    (hf : ∀ w', Below w.heap.size w w' → ∀ i : Nat, i < n → Calls Tryd.prog 52 (#[.int .i64 (i : Int)] ++ cb) w' fun e w'' => e = .returned (.bool (decide (K ≤ i))) ∧ Below w'.heap.size w' w'') :
    Calls Tryd.prog 51 #[.int .i64 (n : Int), .func (.func 52) #[] cb] w fun e w' => e = .returned (.int .i64 (K : Int)) ∧ Below w.heap.size w w' := by
  have HF := Lib.hid hf
  clear hf
  go_enter Tryd.func51, Tryd.ntmps51
  go_wp2
  go_loopg [5, 6] n (fun g s5 s6 wr => ∃ (lo hi : Nat), s5 = .int .i64 (lo : Int) ∧ s6 = .int .i64 (hi : Int) ∧ lo ≤ hi ∧ hi ≤ n ∧ hi - lo ≤ g ∧ Hid (lo ≤ K ∧ K ≤ hi) ∧ Hid (Below w.heap.size w wr))
  case atStart => exact ⟨0, n, rfl, rfl, Nat.zero_le _, Nat.le_refl _, by omega, ⟨by omega, hK⟩, Below.refl _ _⟩
  case round =>
    obtain ⟨lo, hi, rfl, rfl, hlh, hin, hg, HI, HB⟩ := hrel
    by_cases hlt : lo < hi
    · have hc := HF.out wr HB.out ((lo + hi) / 2) (by omega)
      rw [show (((lo + hi) / 2 : Nat) : Int) = ((lo : Int) + (hi : Int)) / 2 by omega] at hc
      by_cases hp : K ≤ (lo + hi) / 2
      · rw [decide_eq_true hp] at hc
        have HP := Lib.hid hp
        have HC := Lib.hid hc
        clear hp hc
        go_wp2_with fail
        refine (HC.out).mono ?_
        rintro e w1 ⟨rfl, hb⟩
        have HB1 := Lib.hid (HB.out.trans (hb.mono HB.out.size))
        clear hb
        go_wp2
        go_roundg ((lo + hi) / 2 - lo)
        case measure => omega
        case rel => exact ⟨lo, (lo + hi) / 2, rfl, by rw [show ((lo : Int) + (hi : Int)) / 2 = (((lo + hi) / 2 : Nat) : Int) by omega], by omega, by omega, Nat.le_refl _, ⟨HI.out.1, HP.out⟩, HB1.out⟩
      · rw [decide_eq_false hp] at hc
        have HP := Lib.hid hp
        have HC := Lib.hid hc
        clear hp hc
        go_wp2_with fail
        refine (HC.out).mono ?_
        rintro e w1 ⟨rfl, hb⟩
        have HB1 := Lib.hid (HB.out.trans (hb.mono HB.out.size))
        clear hb
        go_wp2
        go_roundg (hi - ((lo + hi) / 2 + 1))
        case measure => omega
        case rel => exact ⟨(lo + hi) / 2 + 1, hi, by rw [show ((lo : Int) + (hi : Int)) / 2 + 1 = (((lo + hi) / 2 + 1 : Nat) : Int) by omega], rfl, by omega, hin, Nat.le_refl _, ⟨by have := HP.out; omega, HI.out.2⟩, HB1.out⟩
    · have HV := Lib.hid (show lo = K by have := HI.out; omega)
      go_wp2
      go_ret
      exact ⟨by rw [HV.out]; rfl, HB.out⟩
set_option maxRecDepth 10000 in
set_option maxHeartbeats 2000000 in
theorem place9 (l : List Ent) (a : Option Addr) (cap : Nat) (p : ByteArray) (w : World) (h : Ents w a cap l) (hA : Asc l) (hl : l.length ≤ 1000) :
    Calls Tryd.prog 31 #[.slice a l.length cap, .string p] w fun e w' => e = .returned (.tuple #[.int .i64 (plc l p.data.toList : Nat), .bool (fnd l p.data.toList).isSome]) ∧ Below w.heap.size w w' := by
  obtain ⟨W, hW⟩ : ∃ W, w.alloc (.cells #[.slice a l.length cap] 42) = W := ⟨_, rfl⟩
  obtain ⟨N, hN⟩ : ∃ N, w.heap.size = N := ⟨_, rfl⟩
  obtain ⟨V, hV⟩ : ∃ V, W.alloc (.cells #[.string p] 9) = V := ⟨_, rfl⟩
  obtain ⟨M, hM⟩ : ∃ M, W.heap.size = M := ⟨_, rfl⟩
  have hb0 : Below w.heap.size w W := by rw [← hW]; exact (Below.refl _ _).alloc (Nat.le_refl _) _
  have hb1 : Below W.heap.size W V := by rw [← hV]; exact (Below.refl _ _).alloc (Nat.le_refl _) _
  have ca0 : W.cell? ⟨N, 0, none⟩ = some (.slice a l.length cap) := by rw [← hW, ← hN]; simp
  have hlt0 : N < W.heap.size := by rw [← hW, ← hN]; simp
  have ca : V.cell? ⟨N, 0, none⟩ = some (.slice a l.length cap) := (hb1.cell (p := ⟨N, 0, none⟩) hlt0).trans ca0
  have cp : V.cell? ⟨M, 0, none⟩ = some (.string p) := by rw [← hV, ← hM]; simp
  have hbV : Below w.heap.size w V := hb0.trans (hb1.mono hb0.size)
  have HE := Lib.hid (RowN.below h hbV)
  have HBV := Lib.hid hbV
  have HS := Lib.hid (show N < V.heap.size ∧ M < V.heap.size by
    have := hb1.size
    refine ⟨by omega, ?_⟩
    rw [← hV, ← hM]; simp)
  obtain ⟨K, hK⟩ : ∃ K, plc l p.data.toList = K := ⟨_, rfl⟩
  have HK := Lib.hid (show K ≤ l.length by rw [← hK]; exact plc_le _ _)
  have HAT := Lib.hid (fun i (hi : i < l.length) => plc_at hA p.data.toList hi)
  have HFN := Lib.hid (plc_fnd hA p.data.toList)
  rw [hK] at HAT HFN ⊢
  have HC := Lib.hid (search9 #[.pointer (some ⟨N, 0, none⟩), .pointer (some ⟨M, 0, none⟩)] l.length K V (by omega) HK.out fun w' hb i hi => by
    refine (clo9 l a cap p N M i w' hi ((hb.cell (p := ⟨N, 0, none⟩) HS.out.1).trans ca) ((hb.cell (p := ⟨M, 0, none⟩) HS.out.2).trans cp) (RowN.below HE.out hb)).mono ?_
    rintro e w'' ⟨rfl, hb2⟩
    rw [HAT.out i hi]
    refine ⟨?_, hb2⟩
    congr 2
    by_cases h : i < K
    · rw [decide_eq_true h, decide_eq_false (show ¬ K ≤ i by omega)]; rfl
    · rw [decide_eq_false h, decide_eq_true (show K ≤ i by omega)]; rfl)
  have HCA := Lib.hid ca
  have HCP := Lib.hid cp
  have hmf : ∀ (fn : Fn) (first cap : Array Value) (w : World), (Instr.makeFunc fn first cap).run Tryd.prog w = .ok (.func fn first cap) w := fun _ _ _ _ => rfl
  clear h hA hb0 hb1 ca0 hlt0 cp hbV hK HAT
  go_enter Tryd.func31, Tryd.ntmps31
  go_wp2_with fail
  refine (HC.out).mono ?_
  rintro e w1 ⟨rfl, hb⟩
  have HB1 := Lib.hid (HBV.out.trans (hb.mono HBV.out.size))
  have HE1 := Lib.hid (RowN.below HE.out hb)
  have ca := (hb.cell (p := ⟨N, 0, none⟩) HS.out.1).trans HCA.out
  have cp := (hb.cell (p := ⟨M, 0, none⟩) HS.out.2).trans HCP.out
  clear hb
  by_cases hlt : K < l.length
  · have g1 : decide ((K : Int) < (l.length : Int)) = true := decide_eq_true (by omega)
    have hlt' : (K : Int) < (l.length : Int) := by omega
    obtain ⟨b, off, rfl, _, hc⟩ := Ents.at HE1.out (Below.refl _ _) hlt
    have hf := HFN.out
    rw [List.getElem?_eq_getElem hlt, Option.bind_some] at hf
    obtain ⟨x, hx⟩ : ∃ x, l[K] = x := ⟨_, rfl⟩
    rw [hx] at hc hf
    have c0 := hc.c0
    clear hc hx
    by_cases hp : pl x = p.data.toList
    · have gp : (x.1.toList == p.toList) = true := by rw [Lib.toList_data, Lib.toList_data, beq_iff_eq]; exact hp
      rw [if_pos hp] at hf
      have HV := Lib.hid (show (fnd l p.data.toList).isSome = true by rw [hf]; rfl)
      clear hp hf HFN
      go_wp2
      go_quiet (fail)
      go_wp2
      go_ret2
      exact ⟨by rw [HV.out]; rfl, below_drewX HB1.out _⟩
    · have gp : (x.1.toList == p.toList) = false := by rw [Lib.toList_data, Lib.toList_data, beq_eq_false_iff_ne]; exact hp
      rw [if_neg hp] at hf
      have HV := Lib.hid (show (fnd l p.data.toList).isSome = false by rw [hf]; rfl)
      clear hp hf HFN
      go_wp2
      go_quiet (fail)
      go_wp2
      go_ret2
      exact ⟨by rw [HV.out]; rfl, below_drewX HB1.out _⟩
  · have g1 : decide ((K : Int) < (l.length : Int)) = false := decide_eq_false (by omega)
    have hlt' : ¬ (K : Int) < (l.length : Int) := by omega
    have hf := HFN.out
    rw [List.getElem?_eq_none (by omega), Option.bind_none] at hf
    have HV := Lib.hid (show (fnd l p.data.toList).isSome = false by rw [hf]; rfl)
    clear hf HFN
    go_wp2
    go_quiet (fail)
    go_wp2
    go_ret2
    exact ⟨by rw [HV.out]; rfl, below_drewX HB1.out _⟩
end Go.Proofs.YthpobihpdomhoaaDoor
