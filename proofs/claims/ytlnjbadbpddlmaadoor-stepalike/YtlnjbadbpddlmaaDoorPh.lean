/-
  Contracts of package entry's Right, Less and Holds, for every entry. Conditions: as each says.
  Contracts of sort.Search with package layer's closure, and of layer.place: where in a rising list an entry at a path stands or would stand, and whether one does. Conditions: the list lies in memory, rises, has at most 1000 entries.
  The contract of layer.housed: whether a right entry lies in the root or in a directory of a rising list. Conditions: the list lies in memory, rises, has at most 1000 entries; the entry is right.
  Loads of an entry (three cells, a variable's or a slice's element) in a region that leaves what was there as it was (OldQ): a rule for the walk. No condition.
  The last of the first so many of a list. No condition.
  The contract of layer.Right. Conditions: the list lies in memory, has at most 1000 entries, its texts at most 100000 bytes.
  The landed code's layer.Right answers as Right15 says. No condition beyond that.
-/
import Derived.Test.YtlnjbadbpddlmaaDoorPc
import Derived.Test.YtlnjbadbpddlmaaDoorPb
import Derived.Test.YtlnjbadbpddlmaaDoorPa
import Derived.Test.YtlnjbadbpddlmaaDoorPd
import Derived.Deep.LoopGhost
import Derived.Lib.Hide
import Derived.IntWalk
import Derived.BigQuiet
import Derived.Laws.Cover1
import Derived.Test.YtlnjbadbpddlmaaDoorS3ParG
namespace Go.Proofs.YtlnjbadbpddlmaaDoor
open Go.RowKit

attribute [local go_sem ↓] old_ldi old_lds
attribute [local go_sem] oldC_forall isC1_ptr isS1_ptr c1V_ptr
set_option maxRecDepth 10000 in
set_option maxHeartbeats 1000000 in
theorem right8 (p : ByteArray) (k : Int) (d : ByteArray) (hz : p.size ≤ maxLen) (w : World) : Calls Tryd.prog 20 #[entV p k d] w fun e w' => e = .returned (.bool (rightE p k d)) ∧ Below w.heap.size w w' := by
  have hb0 : Below w.heap.size w (w.alloc (.cells #[.string p, .int .i64 k, .string d] 45)) := (Below.refl _ _).alloc (Nat.le_refl _) _
  have r0 := enAt_new w p k d
  obtain ⟨W, hW⟩ : ∃ W, w.alloc (.cells #[.string p, .int .i64 k, .string d] 45) = W := ⟨_, rfl⟩
  rw [hW] at hb0 r0
  have c0 := r0.c0
  have HB0 := Lib.hid hb0
  have HR0 := Lib.hid r0
  have HZ := Lib.hid hz
  obtain ⟨n, hn⟩ : ∃ n, dp p.data.toList = n := ⟨_, rfl⟩
  have HN := Lib.hid hn
  have hrE : rightE p k d = (decide (1 ≤ n) && (((k == 1) && decide (d.size ≤ 256)) || (decide (2 ≤ k ∧ k ≤ 4) && decide (d.size = 0)))) := by unfold rightE; rw [hn]
  have HRE := Lib.hid hrE
  clear hb0 r0 hz hn hrE
  have hde : d.size = 0 → d = ByteArray.empty := fun h => ByteArray.size_eq_zero_iff.1 h
  have called : (((k == 1) = true ∧ (d.size : Int) ≤ 256) ∨ ((k == 1) = false ∧ (k == 2) = true ∧ d = ByteArray.empty) ∨ ((k == 1) = false ∧ (k == 2) = false ∧ (k == 3) = true ∧ d = ByteArray.empty) ∨ ((k == 1) = false ∧ (k == 2) = false ∧ (k == 3) = false ∧ (k == 4) = true ∧ d = ByteArray.empty)) ∧ rightE p k d = decide (0 < n) ∨ (((k == 1) = true ∧ ¬ (d.size : Int) ≤ 256) ∨ ((k == 1) = false ∧ (k == 2) = true ∧ ¬ d = ByteArray.empty) ∨ ((k == 1) = false ∧ (k == 2) = false ∧ (k == 3) = true ∧ ¬ d = ByteArray.empty) ∨ ((k == 1) = false ∧ (k == 2) = false ∧ (k == 3) = false ∧ (k == 4) = true ∧ ¬ d = ByteArray.empty) ∨ ((k == 1) = false ∧ (k == 2) = false ∧ (k == 3) = false ∧ (k == 4) = false)) ∧ rightE p k d = false := by
    rw [HRE.out]
    by_cases e1 : k = 1
    · subst e1
      by_cases h : d.size ≤ 256
      · exact .inl ⟨.inl ⟨rfl, by omega⟩, by simp [h]; omega⟩
      · exact .inr ⟨.inl ⟨rfl, by omega⟩, by simp [h]⟩
    · by_cases e2 : k = 2
      · subst e2
        by_cases h : d.size = 0
        · exact .inl ⟨.inr (.inl ⟨rfl, rfl, hde h⟩), by simp [h]; omega⟩
        · exact .inr ⟨.inr (.inl ⟨rfl, rfl, fun e => h (by rw [e]; rfl)⟩), by simp [h]⟩
      · by_cases e3 : k = 3
        · subst e3
          by_cases h : d.size = 0
          · exact .inl ⟨.inr (.inr (.inl ⟨rfl, rfl, rfl, hde h⟩)), by simp [h]; omega⟩
          · exact .inr ⟨.inr (.inr (.inl ⟨rfl, rfl, rfl, fun e => h (by rw [e]; rfl)⟩)), by simp [h]⟩
        · by_cases e4 : k = 4
          · subst e4
            by_cases h : d.size = 0
            · exact .inl ⟨.inr (.inr (.inr ⟨rfl, rfl, rfl, rfl, hde h⟩)), by simp [h]; omega⟩
            · exact .inr ⟨.inr (.inr (.inr (.inl ⟨rfl, rfl, rfl, rfl, fun e => h (by rw [e]; rfl)⟩))), by simp [h]⟩
          · refine .inr ⟨.inr (.inr (.inr (.inr ⟨beq_eq_false_iff_ne.2 e1, beq_eq_false_iff_ne.2 e2, beq_eq_false_iff_ne.2 e3, beq_eq_false_iff_ne.2 e4⟩))), ?_⟩
            rw [beq_eq_false_iff_ne.2 e1, decide_eq_false (show ¬ (2 ≤ k ∧ k ≤ 4) by omega)]
            simp
  clear hde
  have c1 := HR0.out.c1
  have c2 := HR0.out.c2
  rcases called with ⟨h, hv⟩ | ⟨h, hv⟩
  · have HV := Lib.hid hv
    clear hv HRE
    rcases h with ⟨g1, g5⟩ | ⟨g1, g2, rfl⟩ | ⟨g1, g2, g3, rfl⟩ | ⟨g1, g2, g3, g4, rfl⟩
    all_goals
      go_enter Tryd.func20, Tryd.ntmps20
      go_wp2_with fail
      refine (deep_any p (by have := HZ.out; unfold maxLen at this; omega) _).mono ?_
      rintro e w1 ⟨rfl, hb1⟩
      rw [HN.out]
      have HB1 := Lib.hid (HB0.out.trans (hb1.mono HB0.out.size))
      clear hb1
      go_wp2
      go_ret
      exact ⟨by rw [HV.out]; first | rfl | (simp; done) | (simp; omega), HB1.out⟩
  · have HV := Lib.hid hv
    clear hv HRE
    rcases h with ⟨g1, g5⟩ | ⟨g1, g2, g5⟩ | ⟨g1, g2, g3, g5⟩ | ⟨g1, g2, g3, g4, g5⟩ | ⟨g1, g2, g3, g4⟩
    all_goals
      go_enter Tryd.func20, Tryd.ntmps20
      go_wp2
      go_ret
      exact ⟨by rw [HV.out]; rfl, HB0.out⟩
theorem less8 (p q d f : ByteArray) (k m : Int) (w : World) : Calls Tryd.prog 21 #[entV p k d, entV q m f] w fun e w' => e = .returned (.bool (Op.bytesLess p.data.toList q.data.toList)) ∧ Below w.heap.size w w' := by
  go_enter Tryd.func21, Tryd.ntmps21
  go_wp2
  go_ret
  exact ⟨by simp [Lib.toList_data], ((Below.refl _ _).alloc (Nat.le_refl _) _).alloc (by simp) _⟩
theorem holds8 (p d : ByteArray) (k : Int) (w : World) : Calls Tryd.prog 31 #[entV p k d] w fun e w' => e = .returned (.bool (k == 2 || k == 4)) ∧ Below w.heap.size w w' := by
  by_cases h2 : k = 2
  · have g : (k == 2) = true := by rw [h2]; rfl
    rw [g, Bool.true_or]
    clear h2
    go_enter Tryd.func31, Tryd.ntmps31
    go_wp2
    go_ret
    exact ⟨by simp, (Below.refl _ _).alloc (Nat.le_refl _) _⟩
  · have g : (k == 2) = false := beq_eq_false_iff_ne.2 h2
    rw [g, Bool.false_or]
    clear h2
    go_enter Tryd.func31, Tryd.ntmps31
    go_wp2
    go_ret
    exact ⟨by simp, (Below.refl _ _).alloc (Nat.le_refl _) _⟩
end Go.Proofs.YtlnjbadbpddlmaaDoor

namespace Go.Proofs.YtlnjbadbpddlmaaDoor
open Go.RowKit

theorem geq_str (t : TypeId) (a b : ByteArray) : binOp .geq t (.string a) (.string b) = pure (.bool !(Op.bytesLess a.toList b.toList)) := by simp [binOp, Op.stringOp]
attribute [local go_sem] geq_str
set_option maxRecDepth 10000 in
set_option maxHeartbeats 1000000 in
theorem clo9 (l : List Ent) (a : Option Addr) (cap : Nat) (p : ByteArray) (ba bp i : Nat) (w : World) (hi : i < l.length) (ca : w.cell? ⟨ba, 0, none⟩ = some (.slice a l.length cap)) (cp : w.cell? ⟨bp, 0, none⟩ = some (.string p)) (h : Ents w a cap l) :
    Calls Tryd.prog 47 (#[.int .i64 (i : Int)] ++ #[.pointer (some ⟨ba, 0, none⟩), .pointer (some ⟨bp, 0, none⟩)]) w fun e w' => e = .returned (.bool (!lt8 (pl l[i]) p.data.toList)) ∧ Below w.heap.size w w' := by
  obtain ⟨b, off, rfl, hb, hc⟩ := Ents.at h (Below.refl _ _) hi
  obtain ⟨x, hx⟩ : ∃ x, l[i] = x := ⟨_, rfl⟩
  rw [hx] at hc ⊢
  have c0 := hc.c0
  have hi' : (i : Int) < (l.length : Int) := by omega
  clear hc hx hb h
  go_enter Tryd.func47, Tryd.ntmps47
  go_wp2
  go_quiet (fail)
  go_wp2
  go_ret
  exact ⟨by rw [Lib.toList_data, Lib.toList_data]; rfl, below_drewX (Below.refl _ _) _⟩
set_option maxRecDepth 10000 in
set_option maxHeartbeats 2000000 in
theorem search9 (cb : Array Value) (n K : Nat) (w : World) (hn : n ≤ 100000) (hK : K ≤ n)
    (hf : ∀ w', Below w.heap.size w w' → ∀ i : Nat, i < n → Calls Tryd.prog 47 (#[.int .i64 (i : Int)] ++ cb) w' fun e w'' => e = .returned (.bool (decide (K ≤ i))) ∧ Below w'.heap.size w' w'') :
    Calls Tryd.prog 46 #[.int .i64 (n : Int), .func (.func 47) #[] cb] w fun e w' => e = .returned (.int .i64 (K : Int)) ∧ Below w.heap.size w w' := by
  have HF := Lib.hid hf
  clear hf
  go_enter Tryd.func46, Tryd.ntmps46
  go_wp2
  go_loopg [5, 6] n (fun g s5 s6 wr => ∃ (lo hi : Nat), s5 = .int .i64 (lo : Int) ∧ s6 = .int .i64 (hi : Int) ∧ lo ≤ hi ∧ hi ≤ n ∧ hi - lo ≤ g ∧ Hid (lo ≤ K ∧ K ≤ hi) ∧ Hid (Below w.heap.size w wr))
  case atStart => exact ⟨0, n, rfl, rfl, Nat.zero_le _, Nat.le_refl _, by omega, ⟨by omega, hK⟩, Below.refl _ _⟩
  case round =>
    obtain ⟨lo, hi, rfl, rfl, hlh, hin, hg, HI, HB⟩ := hrel
    by_cases hlt : lo < hi
    · have hc := HF.out wr HB.out ((lo + hi) / 2) (by omega)
      rw [show (((lo + hi) / 2 : Nat) : Int) = ((lo : Int) + (hi : Int)) / 2 by omega] at hc
      by_cases hp : K ≤ (lo + hi) / 2
      · rw [decide_eq_true hp] at hc
        have HP := Lib.hid hp
        have HC := Lib.hid hc
        clear hp hc
        go_wp2_with fail
        refine (HC.out).mono ?_
        rintro e w1 ⟨rfl, hb⟩
        have HB1 := Lib.hid (HB.out.trans (hb.mono HB.out.size))
        clear hb
        go_wp2
        go_roundg ((lo + hi) / 2 - lo)
        case measure => omega
        case rel => exact ⟨lo, (lo + hi) / 2, rfl, by rw [show ((lo : Int) + (hi : Int)) / 2 = (((lo + hi) / 2 : Nat) : Int) by omega], by omega, by omega, Nat.le_refl _, ⟨HI.out.1, HP.out⟩, HB1.out⟩
      · rw [decide_eq_false hp] at hc
        have HP := Lib.hid hp
        have HC := Lib.hid hc
        clear hp hc
        go_wp2_with fail
        refine (HC.out).mono ?_
        rintro e w1 ⟨rfl, hb⟩
        have HB1 := Lib.hid (HB.out.trans (hb.mono HB.out.size))
        clear hb
        go_wp2
        go_roundg (hi - ((lo + hi) / 2 + 1))
        case measure => omega
        case rel => exact ⟨(lo + hi) / 2 + 1, hi, by rw [show ((lo : Int) + (hi : Int)) / 2 + 1 = (((lo + hi) / 2 + 1 : Nat) : Int) by omega], rfl, by omega, hin, Nat.le_refl _, ⟨by have := HP.out; omega, HI.out.2⟩, HB1.out⟩
    · have HV := Lib.hid (show lo = K by have := HI.out; omega)
      go_wp2
      go_ret
      exact ⟨by rw [HV.out]; rfl, HB.out⟩
set_option maxRecDepth 10000 in
set_option maxHeartbeats 2000000 in
theorem place9 (l : List Ent) (a : Option Addr) (cap : Nat) (p : ByteArray) (w : World) (h : Ents w a cap l) (hA : Asc l) (hl : l.length ≤ 1000) :
    Calls Tryd.prog 30 #[.slice a l.length cap, .string p] w fun e w' => e = .returned (.tuple #[.int .i64 (plc l p.data.toList : Nat), .bool (fnd l p.data.toList).isSome]) ∧ Below w.heap.size w w' := by
  obtain ⟨W, hW⟩ : ∃ W, w.alloc (.cells #[.slice a l.length cap] 22) = W := ⟨_, rfl⟩
  obtain ⟨N, hN⟩ : ∃ N, w.heap.size = N := ⟨_, rfl⟩
  obtain ⟨V, hV⟩ : ∃ V, W.alloc (.cells #[.string p] 9) = V := ⟨_, rfl⟩
  obtain ⟨M, hM⟩ : ∃ M, W.heap.size = M := ⟨_, rfl⟩
  have hb0 : Below w.heap.size w W := by rw [← hW]; exact (Below.refl _ _).alloc (Nat.le_refl _) _
  have hb1 : Below W.heap.size W V := by rw [← hV]; exact (Below.refl _ _).alloc (Nat.le_refl _) _
  have ca0 : W.cell? ⟨N, 0, none⟩ = some (.slice a l.length cap) := by rw [← hW, ← hN]; simp
  have hlt0 : N < W.heap.size := by rw [← hW, ← hN]; simp
  have ca : V.cell? ⟨N, 0, none⟩ = some (.slice a l.length cap) := (hb1.cell (p := ⟨N, 0, none⟩) hlt0).trans ca0
  have cp : V.cell? ⟨M, 0, none⟩ = some (.string p) := by rw [← hV, ← hM]; simp
  have hbV : Below w.heap.size w V := hb0.trans (hb1.mono hb0.size)
  have HE := Lib.hid (RowN.below h hbV)
  have HBV := Lib.hid hbV
  have HS := Lib.hid (show N < V.heap.size ∧ M < V.heap.size by
    have := hb1.size
    refine ⟨by omega, ?_⟩
    rw [← hV, ← hM]; simp)
  obtain ⟨K, hK⟩ : ∃ K, plc l p.data.toList = K := ⟨_, rfl⟩
  have HK := Lib.hid (show K ≤ l.length by rw [← hK]; exact plc_le _ _)
  have HAT := Lib.hid (fun i (hi : i < l.length) => plc_at hA p.data.toList hi)
  have HFN := Lib.hid (plc_fnd hA p.data.toList)
  rw [hK] at HAT HFN ⊢
  have HC := Lib.hid (search9 #[.pointer (some ⟨N, 0, none⟩), .pointer (some ⟨M, 0, none⟩)] l.length K V (by omega) HK.out fun w' hb i hi => by
    refine (clo9 l a cap p N M i w' hi ((hb.cell (p := ⟨N, 0, none⟩) HS.out.1).trans ca) ((hb.cell (p := ⟨M, 0, none⟩) HS.out.2).trans cp) (RowN.below HE.out hb)).mono ?_
    rintro e w'' ⟨rfl, hb2⟩
    rw [HAT.out i hi]
    refine ⟨?_, hb2⟩
    congr 2
    by_cases h : i < K
    · rw [decide_eq_true h, decide_eq_false (show ¬ K ≤ i by omega)]; rfl
    · rw [decide_eq_false h, decide_eq_true (show K ≤ i by omega)]; rfl)
  have HCA := Lib.hid ca
  have HCP := Lib.hid cp
  have hmf : ∀ (fn : Fn) (first cap : Array Value) (w : World), (Instr.makeFunc fn first cap).run Tryd.prog w = .ok (.func fn first cap) w := fun _ _ _ _ => rfl
  clear h hA hb0 hb1 ca0 hlt0 cp hbV hK HAT
  go_enter Tryd.func30, Tryd.ntmps30
  go_wp2_with fail
  refine (HC.out).mono ?_
  rintro e w1 ⟨rfl, hb⟩
  have HB1 := Lib.hid (HBV.out.trans (hb.mono HBV.out.size))
  have HE1 := Lib.hid (RowN.below HE.out hb)
  have ca := (hb.cell (p := ⟨N, 0, none⟩) HS.out.1).trans HCA.out
  have cp := (hb.cell (p := ⟨M, 0, none⟩) HS.out.2).trans HCP.out
  clear hb
  by_cases hlt : K < l.length
  · have g1 : decide ((K : Int) < (l.length : Int)) = true := decide_eq_true (by omega)
    have hlt' : (K : Int) < (l.length : Int) := by omega
    obtain ⟨b, off, rfl, _, hc⟩ := Ents.at HE1.out (Below.refl _ _) hlt
    have hf := HFN.out
    rw [List.getElem?_eq_getElem hlt, Option.bind_some] at hf
    obtain ⟨x, hx⟩ : ∃ x, l[K] = x := ⟨_, rfl⟩
    rw [hx] at hc hf
    have c0 := hc.c0
    clear hc hx
    by_cases hp : pl x = p.data.toList
    · have gp : (x.1.toList == p.toList) = true := by rw [Lib.toList_data, Lib.toList_data, beq_iff_eq]; exact hp
      rw [if_pos hp] at hf
      have HV := Lib.hid (show (fnd l p.data.toList).isSome = true by rw [hf]; rfl)
      clear hp hf HFN
      go_wp2
      go_quiet (fail)
      go_wp2
      go_ret2
      exact ⟨by rw [HV.out]; rfl, below_drewX HB1.out _⟩
    · have gp : (x.1.toList == p.toList) = false := by rw [Lib.toList_data, Lib.toList_data, beq_eq_false_iff_ne]; exact hp
      rw [if_neg hp] at hf
      have HV := Lib.hid (show (fnd l p.data.toList).isSome = false by rw [hf]; rfl)
      clear hp hf HFN
      go_wp2
      go_quiet (fail)
      go_wp2
      go_ret2
      exact ⟨by rw [HV.out]; rfl, below_drewX HB1.out _⟩
  · have g1 : decide ((K : Int) < (l.length : Int)) = false := decide_eq_false (by omega)
    have hlt' : ¬ (K : Int) < (l.length : Int) := by omega
    have hf := HFN.out
    rw [List.getElem?_eq_none (by omega), Option.bind_none] at hf
    have HV := Lib.hid (show (fnd l p.data.toList).isSome = false by rw [hf]; rfl)
    clear hf HFN
    go_wp2
    go_quiet (fail)
    go_wp2
    go_ret2
    exact ⟨by rw [HV.out]; rfl, below_drewX HB1.out _⟩
end Go.Proofs.YtlnjbadbpddlmaaDoor

namespace Go.Proofs.YtlnjbadbpddlmaaDoor
open Go.RowKit

theorem par9_root {p : List UInt8} (h : isP p) (h1 : p ≠ [47]) : par9 p = [47] ↔ dp p = 1 := by
  obtain ⟨ms, x, a1, _, a3, _, a5⟩ := par9_parts h h1
  rw [a5, dp_pos h, a3, ← pcs_nil (isP_pth a1), pcs_pth a1.2, List.length_append, ← List.length_eq_zero_iff]
  simp only [List.length_singleton]
  omega
theorem inD_fnd {l : List Ent} (hA : Asc l) {e : Ent} (hne : par9 (pl e) ≠ [47]) : decide (inD l e) = (match fnd l (par9 (pl e)) with
    | some d => hd d
    | none => false) := by
  cases hf : fnd l (par9 (pl e)) with
  | none =>
    refine decide_eq_false ?_
    rintro (h | ⟨d, h1, h2, _⟩)
    · exact hne h
    · exact fnd_none.1 hf d h1 h2
  | some d =>
    obtain ⟨h1, h2⟩ := (fnd_some hA).1 hf
    show _ = hd d
    cases hd' : hd d with
    | true => exact decide_eq_true (.inr ⟨d, h1, h2, hd'⟩)
    | false =>
      refine decide_eq_false ?_
      rintro (h | ⟨x, h3, h4, h5⟩)
      · exact hne h
      · obtain rfl := asc_inj hA h1 h3 (h2.trans h4.symm)
        rw [hd'] at h5
        cases h5
set_option maxRecDepth 10000 in
set_option maxHeartbeats 2000000 in
theorem housed9 (l : List Ent) (a : Option Addr) (cap : Nat) (e : Ent) (w : World) (h : Ents w a cap l) (hA : Asc l) (hl : l.length ≤ 1000) (he : rE e = true) :
    Calls Tryd.prog 22 #[.slice a l.length cap, enV e] w fun r w' => r = .returned (.bool (decide (inD l e))) ∧ Below w.heap.size w w' := by
  obtain ⟨hP, hne⟩ := rE_isP he
  have h54 := isP_len hP
  rw [← Lib.size_eq] at h54
  obtain ⟨W, hW⟩ : ∃ W, w.alloc (.cells #[.string e.1, .int .i64 e.2.1, .string e.2.2] 45) = W := ⟨_, rfl⟩
  obtain ⟨N, hN⟩ : ∃ N, w.heap.size = N := ⟨_, rfl⟩
  have hb0 : Below w.heap.size w W := by rw [← hW]; exact (Below.refl _ _).alloc (Nat.le_refl _) _
  have HB0 := Lib.hid hb0
  have r0 : EnAt W N e.1 e.2.1 e.2.2 := by rw [← hW, ← hN]; exact enAt_new _ _ _ _
  have c0 := r0.c0
  have HR0 := Lib.hid r0
  have HE := Lib.hid (RowN.below h hb0)
  have HA := Lib.hid hA
  have HL := Lib.hid hl
  have HZ := Lib.hid (show e.1.size ≤ 9223372036854775807 by omega)
  have HP := Lib.hid hP
  have HNE := Lib.hid hne
  have HPR := Lib.hid (par9_root hP hne)
  obtain ⟨ms, y, m1, m2, m3, m4, m5⟩ := par9_parts hP hne
  have HPG := Lib.hid (parent_good e.1 ms y hP m2 m4 hne)
  have HM5 := Lib.hid m5
  obtain ⟨n, hn⟩ : ∃ n, dp (pl e) = n := ⟨_, rfl⟩
  rw [hn] at HPR
  have HN := Lib.hid hn
  clear h hA hl he hP hne h54 hb0 r0 m1 m2 m3 m4 m5 hn
  by_cases h1 : n = 1
  · have g1 : (n == 1) = true := by rw [h1]; rfl
    have HV := Lib.hid (show decide (inD l e) = true from decide_eq_true (.inl (HPR.out.2 h1)))
    clear h1
    go_enter Tryd.func22, Tryd.ntmps22
    go_wp2_with fail
    refine (deep_any e.1 HZ.out _).mono ?_
    rintro r w1 ⟨rfl, hb⟩
    rw [HN.out]
    have HB1 := Lib.hid (HB0.out.trans (hb.mono HB0.out.size))
    clear hb
    go_wp2
    go_ret
    exact ⟨by rw [HV.out]; rfl, HB1.out⟩
  · have g1 : (n == 1) = false := beq_eq_false_iff_ne.2 h1
    have HV := Lib.hid (inD_fnd (e := e) HA.out (fun h => h1 (HPR.out.1 h)))
    clear h1
    go_enter Tryd.func22, Tryd.ntmps22
    go_wp2_with fail
    refine (deep_any e.1 HZ.out _).mono ?_
    rintro r w1 ⟨rfl, hb⟩
    rw [HN.out]
    have HB1 := Lib.hid (HB0.out.trans (hb.mono HB0.out.size))
    have HE1 := Lib.hid (RowN.below HE.out hb)
    have HR1 := Lib.hid (HR0.out.below hb)
    clear hb c0
    have c0 := HR1.out.c0
    go_wp2_with fail
    refine (HPG.out _).mono ?_
    rintro r w2 ⟨d, z, rfl, hd1, _, hb⟩
    have HB2 := Lib.hid (HB1.out.trans (hb.mono HB1.out.size))
    have HE2 := Lib.hid (RowN.below HE1.out hb)
    have HD := Lib.hid (hd1.trans HM5.out.symm)
    clear hb hd1 c0
    go_wp2_with fail
    refine (place9 l a cap d _ HE2.out HA.out HL.out).mono ?_
    rintro r w3 ⟨rfl, hb⟩
    rw [HD.out]
    have HB3 := Lib.hid (HB2.out.trans (hb.mono HB2.out.size))
    have HE3 := Lib.hid (RowN.below HE2.out hb)
    clear hb
    cases hf : fnd l (par9 (pl e)) with
    | none =>
      rw [hf] at HV
      rw [show (none : Option Ent).isSome = false from rfl]
      clear hf
      go_wp2
      go_ret
      exact ⟨by rw [HV.out]; rfl, HB3.out⟩
    | some x =>
      rw [hf] at HV
      rw [show (some x).isSome = true from rfl]
      obtain ⟨hk, hx, _⟩ := plc_some HA.out hf
      obtain ⟨K, hK⟩ : ∃ K, plc l (par9 (pl e)) = K := ⟨_, rfl⟩
      simp only [hK] at hk hx
      rw [hK]
      obtain ⟨b, off, rfl, _, hc⟩ := Ents.at HE3.out (Below.refl _ _) hk
      rw [hx] at hc
      have c0 := hc.c0
      have c1 := hc.c1
      have c2 := hc.c2
      have hk' : (K : Int) < (l.length : Int) := by omega
      clear hf hK hx hc
      go_wp2_with fail
      refine (holds8 x.1 x.2.2 x.2.1 _).mono ?_
      rintro r w4 ⟨rfl, hb⟩
      have HB4 := Lib.hid (HB3.out.trans (hb.mono HB3.out.size))
      have HV2 := Lib.hid (show decide (inD l e) = (x.2.1 == 2 || x.2.1 == 4) from HV.out)
      obtain ⟨q, hq⟩ : ∃ q, (x.2.1 == 2 || x.2.1 == 4) = q := ⟨_, rfl⟩
      rw [hq] at HV2 ⊢
      clear hb hq HV
      go_wp2
      go_ret
      exact ⟨by rw [HV2.out]; rfl, HB4.out⟩
end Go.Proofs.YtlnjbadbpddlmaaDoor

namespace Go.Proofs.YtlnjbadbpddlmaaDoor
open Go.RowKit

/-- An entry lies there; it. -/
def IsE3 (w : World) : Value → Prop
  | .pointer (some ⟨b, o, none⟩) => (∃ p, w.cell? ⟨b, o, none⟩ = some (.string p)) ∧ (∃ k, w.cell? ⟨b, o + 1, none⟩ = some (.int .i64 k)) ∧ ∃ d, w.cell? ⟨b, o + 2, none⟩ = some (.string d)
  | _ => False
def e3V (w : World) : Value → Value
  | .pointer (some ⟨b, o, none⟩) => .agg #[(w.cell? ⟨b, o, none⟩).getD undef, (w.cell? ⟨b, o + 1, none⟩).getD undef, (w.cell? ⟨b, o + 2, none⟩).getD undef]
  | _ => undef
theorem isE3_ptr (w : World) (b o : Nat) : IsE3 w (.pointer (some ⟨b, o, none⟩)) = ((∃ p, w.cell? ⟨b, o, none⟩ = some (.string p)) ∧ (∃ k, w.cell? ⟨b, o + 1, none⟩ = some (.int .i64 k)) ∧ ∃ d, w.cell? ⟨b, o + 2, none⟩ = some (.string d)) := rfl
theorem e3V_ptr (w : World) (b o : Nat) : e3V w (.pointer (some ⟨b, o, none⟩)) = .agg #[(w.cell? ⟨b, o, none⟩).getD undef, (w.cell? ⟨b, o + 1, none⟩).getD undef, (w.cell? ⟨b, o + 2, none⟩).getD undef] := rfl
theorem ld_e3 {w : World} {b o : Nat} {e : Ent} (h : EnCells w b o e) : (Instr.loadAt 45 (.pointer (some ⟨b, o, none⟩))).run Tryd.prog w = .ok (enV e) w := by
  refine (fun hr : w.rangeAt b o (enc e) => run_loadAt_mid w b o 45 _ _ hr Tryd.underlying45 rfl (by rw [enSize]; rfl)) ?_
  intro j v hv
  match j, hv with
  | 0, hv => obtain rfl : .string e.1 = v := by simpa using hv
             exact h.c0
  | 1, hv => obtain rfl : .int .i64 e.2.1 = v := by simpa using hv
             exact h.c1
  | 2, hv => obtain rfl : .string e.2.2 = v := by simpa using hv
             exact h.c2
theorem old_lde3 {d : Option Tmp} {ty : TypeId} {pos : String} {af : Array Edge} {g : Option (Nat × Bool)} {x : Operand} {a : Act} {w0 : World} {K : Act → Prop} (h : IsE3 w0 (a.eval x)) :
    Oper.quiet Tryd.prog { dst := d, op := .load 45 x, type := ty, pos := pos, after := af, guard := g } a (OldC w0) K = K (a.put d (e3V w0 (a.eval x))) := by
  refine old_eq fun w hw => ?_
  have hl : (Instr.loadAt 45 (a.eval x)).run Tryd.prog w = .ok (e3V w0 (a.eval x)) w := by
    match a.eval x, h with
    | .pointer (some ⟨b, o, none⟩), ⟨⟨p, hp⟩, ⟨k, hk⟩, ⟨d, hd⟩⟩ =>
      rw [e3V_ptr, hp, hk, hd]
      have hlt := World.block_lt_of_cell? w0 _ hp
      exact ld_e3 (e := (p, k, d)) ⟨(Below.cell hw (p := ⟨b, o, none⟩) hlt).trans hp, (Below.cell hw (p := ⟨b, o + 1, none⟩) hlt).trans hk, (Below.cell hw (p := ⟨b, o + 2, none⟩) hlt).trans hd⟩
  unfold execOp
  simp only [Sem.run_bind, Sem.run_pure, Result.andThen_ok, hl]
end Go.Proofs.YtlnjbadbpddlmaaDoor

namespace Go.Proofs.YtlnjbadbpddlmaaDoor
open Go.RowKit

theorem last_take9 {l : List Ent} {k j : Nat} (hk : k < l.length) (hj : k = j + 1) : (l.take k).getLast? = some (l[j]'(by omega)) := by
  subst hj
  rw [take_get l j (by omega), List.getLast?_concat]
end Go.Proofs.YtlnjbadbpddlmaaDoor

namespace Go.Proofs.YtlnjbadbpddlmaaDoor
open Go.RowKit

theorem rl_no {l : List Ent} {k : Nat} (h : ¬ RL (l.take (k + 1))) : decide (RightL l) = false := decide_eq_false fun hr => h (rl_take hr.2 _)
attribute [local go_sem ↓] old_ldi old_lds old_lde3
attribute [local go_sem] oldC_forall isC1_ptr isS1_ptr c1V_ptr isE3_ptr e3V_ptr
set_option maxRecDepth 10000 in
set_option maxHeartbeats 4000000 in
theorem right9 (l : List Ent) (a : Option Addr) (cap : Nat) (w : World) (h : Ents w a cap l) (hs : Sm l) : Calls Tryd.prog 10 #[.slice a l.length cap] w fun e w' => e = .returned (.bool (decide (RightL l))) ∧ Below w.heap.size w w' := by
  obtain ⟨R, hR⟩ : ∃ R, decide (RightL l) = R := ⟨_, rfl⟩
  rw [hR]
  have HR := Lib.hid hR
  clear hR
  by_cases h64 : l.length ≤ 64
  · have g64 : ¬ (64 : Int) < (l.length : Int) := by omega
    have HE := Lib.hid h
    have HS := Lib.hid hs
    have HL := Lib.hid h64
    have HCAP := Lib.hid h.1
    clear h hs
    go_enter Tryd.func10, Tryd.ntmps10
    go_wp2
    go_loopg [10] l.length (fun g i wx => ∃ k : Nat, i = .int .i64 (k : Int) ∧ k + g = l.length ∧ Hid (RL (l.take k)) ∧ Hid (Below w.heap.size w wx))
    case atStart => exact ⟨0, rfl, by omega, by simpa [Hid] using rl_nil, Below.refl _ _⟩
    case round =>
      obtain ⟨k, rfl, hk, HI, HB⟩ := hrel
      have hw : IntKind.i64.wrap ((k : Int) + 1) = (k : Int) + 1 := IntWalk.i64_in _ (by omega)
      by_cases hlt : k < l.length
      · have hlt' : (k : Int) < (l.length : Int) := by omega
        have hkc : (k : Int) ≤ (cap : Int) := by have := HCAP.out; omega
        obtain ⟨b, off, rfl, hb, hc⟩ := HE.out.at HB.out hlt
        have HEr := Lib.hid (RowN.below HE.out HB.out)
        have HT := Lib.hid (take_get l k hlt)
        have HZ := Lib.hid (HS.out.2 _ (List.getElem_mem hlt))
        have HLT := Lib.hid (fun j (hj : k = j + 1) => last_take9 hlt hj)
        have HNO := Lib.hid (fun h => rl_no (l := l) (k := k) h)
        obtain ⟨x, hx⟩ : ∃ x, l[k] = x := ⟨_, rfl⟩
        rw [hx] at hc HT HZ
        have HXK := Lib.hid hx
        have c0 := hc.c0
        have c1 := hc.c1
        have c2 := hc.c2
        obtain ⟨W, hW⟩ : ∃ W, wr.alloc (.cells #[.string x.1, .int .i64 x.2.1, .string x.2.2] 45) = W := ⟨_, rfl⟩
        obtain ⟨M, hM⟩ : ∃ M, wr.heap.size = M := ⟨_, rfl⟩
        have hbW : Below wr.heap.size wr W := by rw [← hW]; exact (Below.refl _ _).alloc (Nat.le_refl _) _
        have HBW := Lib.hid (HB.out.trans (hbW.mono HB.out.size))
        have HQ := Lib.hid (show EnAt W M x.1 x.2.1 x.2.2 by rw [← hW, ← hM]; exact enAt_new _ _ _ _)
        have HEW := Lib.hid (RowN.below HEr.out hbW)
        have q0 := HQ.out.c0
        have q1 := HQ.out.c1
        have q2 := HQ.out.c2
        have H1 : Hid (∀ w0 w', OldC w0 w' → Calls Tryd.prog 20 #[entV x.1 x.2.1 x.2.2] w' fun r w'' => r = .returned (.bool (rE x)) ∧ OldC w0 w'') := fun w0 w' hw' => by
          refine (right8 x.1 x.2.1 x.2.2 (by have := HZ.out; unfold maxLen; omega) w').mono ?_
          rintro r w'' ⟨rfl, hb⟩
          exact ⟨rfl, hw'.then hb⟩
        have H2 : Hid (∀ y : Ent, ∀ w0 w', OldC w0 w' → Calls Tryd.prog 21 #[entV y.1 y.2.1 y.2.2, entV x.1 x.2.1 x.2.2] w' fun r w'' => r = .returned (.bool (lt8 (pl y) (pl x))) ∧ OldC w0 w'') := fun y w0 w' hw' => by
          refine (less8 y.1 x.1 y.2.2 x.2.2 y.2.1 x.2.1 w').mono ?_
          rintro r w'' ⟨rfl, hb⟩
          exact ⟨rfl, hw'.then hb⟩
        clear hc hx hb hbW
        cases hv : rE x with
        | false =>
          rw [hv] at H1
          have HX := Lib.hid (show R = false by
            rw [← HR.out]
            refine HNO.out fun h => ?_
            rw [HT.out, rl_snoc, hv] at h
            cases h.2.1)
          clear hv
          go_wp2_with fail
          refine wp_region_old (by kernel_rfl) (by kernel_rfl) ?_
          repeat (go_big_quiet_step ((first | (intro hw; with_reducible exact H1.out _ _ hw))))
          refine wpQuiet_nil ?_
          intro w3 hw3
          have HB3 := Lib.hid (show Below w.heap.size w w3 from HBW.out.trans (Below.mono hw3 HBW.out.size))
          clear hw3
          go_wp2
          go_ret
          exact ⟨by rw [HX.out]; rfl, HB3.out⟩
        | true =>
          rw [hv] at H1
          have HVX := Lib.hid hv
          clear hv
          have called : (decide (0 < k) = false ∧ ∀ y, (l.take k).getLast? = some y → lt8 (pl y) (pl x) = true) ∨ (decide (0 < k) = true ∧ ∃ (j : Nat) (y : Ent), (k : Int) - 1 = (j : Int) ∧ (l.take k).getLast? = some y ∧ EnCells W b (off + j * 3) y ∧ (j : Int) < (l.length : Int)) := by
            by_cases h0 : 0 < k
            · refine .inr ⟨decide_eq_true h0, k - 1, l[k - 1]'(by omega), by omega, HLT.out (k - 1) (by omega), ?_, by omega⟩
              obtain ⟨b', off', e9, _, h9⟩ := Ents.at HEW.out (Below.refl _ _) (show k - 1 < l.length by omega)
              cases e9
              exact h9
            · refine .inl ⟨decide_eq_false h0, fun y hy => ?_⟩
              obtain rfl : k = 0 := by omega
              simp at hy
          rcases called with ⟨g0, hlast⟩ | ⟨g0, j, y, hj, hy, hcy, hjl⟩
          · have HLA := Lib.hid hlast
            clear hlast
            go_wp2_with fail
            refine wp_region_old (by kernel_rfl) (by kernel_rfl) ?_
            repeat (go_big_quiet_step ((first | (intro hw; with_reducible exact H1.out _ _ hw))))
            refine wpQuiet_nil ?_
            intro w3 hw3
            have HB3 := Lib.hid (show Below w.heap.size w w3 from HBW.out.trans (Below.mono hw3 HBW.out.size))
            have HQ3 := Lib.hid (HQ.out.below hw3)
            have HE3 := Lib.hid (RowN.below HEW.out hw3)
            clear hw3 q0 q1 q2 c0 c1 c2
            have q0 := HQ3.out.c0
            have q1 := HQ3.out.c1
            have q2 := HQ3.out.c2
            have H3 : Hid (∀ w', OldC w3 w' → Calls Tryd.prog 22 #[.slice (some ⟨b, off, none⟩) k cap, entV x.1 x.2.1 x.2.2] w' fun r w'' => r = .returned (.bool (decide (inD (l.take k) x))) ∧ OldC w3 w'') := fun w' hw' => by
              have hc := housed9 (l.take k) (some ⟨b, off, none⟩) cap x w' (Ents.take (RowN.below HE3.out hw') k) HI.out.2.1 (by rw [List.length_take]; omega) HVX.out
              rw [List.length_take, Nat.min_eq_left (by omega)] at hc
              refine hc.mono ?_
              rintro r w'' ⟨rfl, hb⟩
              exact ⟨rfl, hw'.then hb⟩
            by_cases hin : inD (l.take k) x
            · rw [decide_eq_true hin] at H3
              have HN := Lib.hid (show RL (l.take (k + 1)) by rw [HT.out, rl_snoc]; exact ⟨HI.out, HVX.out, HLA.out, hin⟩)
              clear hin
              go_wp2_with fail
              refine wp_region_old (by kernel_rfl) (by kernel_rfl) ?_
              repeat (go_big_quiet_step ((first | (intro hw; with_reducible exact H3.out _ hw))))
              refine wpQuiet_nil ?_
              intro w4 hw4
              have HB4 := Lib.hid (show Below w.heap.size w w4 from HB3.out.trans (Below.mono hw4 HB3.out.size))
              clear hw4
              go_wp2
              go_roundg (gk - 1)
              case measure => omega
              case rel => exact ⟨k + 1, by simp, by omega, HN.out, HB4.out⟩
            · rw [decide_eq_false hin] at H3
              have HX := Lib.hid (show R = false by
                rw [← HR.out]
                refine HNO.out fun h => ?_
                rw [HT.out, rl_snoc] at h
                exact hin h.2.2.2)
              clear hin
              go_wp2_with fail
              refine wp_region_old (by kernel_rfl) (by kernel_rfl) ?_
              repeat (go_big_quiet_step ((first | (intro hw; with_reducible exact H3.out _ hw))))
              refine wpQuiet_nil ?_
              intro w4 hw4
              have HB4 := Lib.hid (show Below w.heap.size w w4 from HB3.out.trans (Below.mono hw4 HB3.out.size))
              clear hw4
              go_wp2
              go_ret
              exact ⟨by rw [HX.out]; rfl, HB4.out⟩
          · have y0 := hcy.c0
            have y1 := hcy.c1
            have y2 := hcy.c2
            have HY := Lib.hid hy
            have hwj : IntKind.i64.wrap (j : Int) = (j : Int) := IntWalk.i64_in _ (by omega)
            clear hcy hy
            cases hv : lt8 (pl y) (pl x) with
            | false =>
              have H2y := Lib.hid (H2.out y)
              rw [hv] at H2y
              have HX := Lib.hid (show R = false by
                rw [← HR.out]
                refine HNO.out fun h => ?_
                rw [HT.out, rl_snoc] at h
                have := h.2.2.1 y HY.out
                rw [hv] at this
                cases this)
              clear hv
              go_wp2_with fail
              refine wp_region_old (by kernel_rfl) (by kernel_rfl) ?_
              repeat (go_big_quiet_step ((first | (intro hw; with_reducible exact H1.out _ _ hw) | (intro hw; with_reducible exact H2y.out _ _ hw))))
              refine wpQuiet_nil ?_
              intro w3 hw3
              have HB3 := Lib.hid (show Below w.heap.size w w3 from HBW.out.trans (Below.mono hw3 HBW.out.size))
              clear hw3
              go_wp2
              go_ret
              exact ⟨by rw [HX.out]; rfl, HB3.out⟩
            | true =>
              have H2y := Lib.hid (H2.out y)
              rw [hv] at H2y
              have HLA := Lib.hid (show ∀ z, (l.take k).getLast? = some z → lt8 (pl z) (pl x) = true from fun z hz => by
                have := HY.out.symm.trans hz
                cases this
                exact hv)
              clear hv
              go_wp2_with fail
              refine wp_region_old (by kernel_rfl) (by kernel_rfl) ?_
              repeat (go_big_quiet_step ((first | (intro hw; with_reducible exact H1.out _ _ hw) | (intro hw; with_reducible exact H2y.out _ _ hw))))
              refine wpQuiet_nil ?_
              intro w3 hw3
              have HB3 := Lib.hid (show Below w.heap.size w w3 from HBW.out.trans (Below.mono hw3 HBW.out.size))
              clear y0 y1 y2
              have HQ3 := Lib.hid (HQ.out.below hw3)
              have HE3 := Lib.hid (RowN.below HEW.out hw3)
              clear hw3 q0 q1 q2 c0 c1 c2
              have q0 := HQ3.out.c0
              have q1 := HQ3.out.c1
              have q2 := HQ3.out.c2
              have H3 : Hid (∀ w', OldC w3 w' → Calls Tryd.prog 22 #[.slice (some ⟨b, off, none⟩) k cap, entV x.1 x.2.1 x.2.2] w' fun r w'' => r = .returned (.bool (decide (inD (l.take k) x))) ∧ OldC w3 w'') := fun w' hw' => by
                have hc := housed9 (l.take k) (some ⟨b, off, none⟩) cap x w' (Ents.take (RowN.below HE3.out hw') k) HI.out.2.1 (by rw [List.length_take]; omega) HVX.out
                rw [List.length_take, Nat.min_eq_left (by omega)] at hc
                refine hc.mono ?_
                rintro r w'' ⟨rfl, hb⟩
                exact ⟨rfl, hw'.then hb⟩
              by_cases hin : inD (l.take k) x
              · rw [decide_eq_true hin] at H3
                have HN := Lib.hid (show RL (l.take (k + 1)) by rw [HT.out, rl_snoc]; exact ⟨HI.out, HVX.out, HLA.out, hin⟩)
                clear hin
                go_wp2_with fail
                refine wp_region_old (by kernel_rfl) (by kernel_rfl) ?_
                repeat (go_big_quiet_step ((first | (intro hw; with_reducible exact H3.out _ hw))))
                refine wpQuiet_nil ?_
                intro w4 hw4
                have HB4 := Lib.hid (show Below w.heap.size w w4 from HB3.out.trans (Below.mono hw4 HB3.out.size))
                clear hw4
                go_wp2
                go_roundg (gk - 1)
                case measure => omega
                case rel => exact ⟨k + 1, by simp, by omega, HN.out, HB4.out⟩
              · rw [decide_eq_false hin] at H3
                have HX := Lib.hid (show R = false by
                  rw [← HR.out]
                  refine HNO.out fun h => ?_
                  rw [HT.out, rl_snoc] at h
                  exact hin h.2.2.2)
                clear hin
                go_wp2_with fail
                refine wp_region_old (by kernel_rfl) (by kernel_rfl) ?_
                repeat (go_big_quiet_step ((first | (intro hw; with_reducible exact H3.out _ hw))))
                refine wpQuiet_nil ?_
                intro w4 hw4
                have HB4 := Lib.hid (show Below w.heap.size w w4 from HB3.out.trans (Below.mono hw4 HB3.out.size))
                clear hw4
                go_wp2
                go_ret
                exact ⟨by rw [HX.out]; rfl, HB4.out⟩
      · have hlt' : ¬ (k : Int) < (l.length : Int) := by omega
        have HX := Lib.hid (show R = true by
          rw [← HR.out]
          have := HI.out
          rw [List.take_of_length_le (by omega)] at this
          exact decide_eq_true ⟨HL.out, this⟩)
        go_wp2
        go_ret
        exact ⟨by rw [HX.out]; rfl, HB.out⟩
  · have g64 : (64 : Int) < (l.length : Int) := by omega
    have HX := Lib.hid (show R = false by rw [← HR.out]; exact decide_eq_false fun h => h64 h.1)
    clear h hs h64
    go_enter Tryd.func10, Tryd.ntmps10
    go_wp2
    go_ret
    exact ⟨by rw [HX.out]; rfl, Below.refl _ _⟩
end Go.Proofs.YtlnjbadbpddlmaaDoor

namespace Go.Proofs.YtlnjbadbpddlmaaDoor
open Go.RowKit

theorem right15r : Right15 := fun l a cap w _ h hs => right9 l a cap w h hs
end Go.Proofs.YtlnjbadbpddlmaaDoor
