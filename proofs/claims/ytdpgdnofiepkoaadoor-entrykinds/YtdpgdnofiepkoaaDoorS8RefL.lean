/-
  The contract of the document's own Lay of an entry (package shaleref08): its bytes. Condition: the kind is one of 0 to 127, the texts are short.
-/
import Derived.Test.YtdpgdnofiepkoaaDoorS8Ref
import Derived.Deep.RegionHeld
import Derived.Deep.DrawnRows
namespace Go.Proofs.YtdpgdnofiepkoaaDoor
open Go.RowKit

/-- An entry's bytes. -/
def layE (p : ByteArray) (k : Nat) (d : ByteArray) : ByteArray := numB k ++ numB p.size ++ p ++ numB d.size ++ d
theorem conv_at {w : World} {b : Nat} {x : Int} (h : w.cell? ⟨b, 0, none⟩ = some (.int .u8 x)) : (convert 53 9 (.slice (some ⟨b, 0, none⟩) 1 1)).run Tryd.prog w = .ok (.string (strOfNums [x])) w := by
  refine run_convert_bytes_arg _ 53 5 Tryd.underlying53 Tryd.underlying5 b 0 1 1 [x] rfl ?_ 9 Tryd.underlying9
  intro i hi
  match i, hi with
  | 0, _ => simpa using h
theorem below_of {B : Nat} {w w1 w2 : World} (h : Below B w w1) (hb : Below w1.heap.size w1 w2) (hB : B ≤ w1.heap.size) : Below B w w2 := h.trans (hb.mono hB)
theorem lt_cps {P : Prop} {a b : Nat} (h : a < b) (hK : a < b → P) : P := hK h
theorem below_cps {P : Prop} {B : Nat} {w X w1 : World} (hb : Below X.heap.size X w1) (h : Below B w X) (hB : B ≤ X.heap.size) (hK : Below B w w1 → P) : P := hK (h.trans (hb.mono hB))
set_option maxRecDepth 10000 in
set_option maxHeartbeats 8000000 in
theorem refLay_any (p : ByteArray) (k : Nat) (d : ByteArray) (hk : k < 128) (hp : p.size ≤ 100000) (hd : d.size ≤ 100000) (w : World) : Calls Tryd.prog 21 #[entV p (k : Int) d] w fun e w' => e = .returned (.string (layE p k d)) ∧ Below w.heap.size w w' := by
  obtain ⟨W, hW⟩ : ∃ W, w.alloc (.cells #[.string p, .int .i64 (k : Int), .string d] 23) = W := ⟨_, rfl⟩
  obtain ⟨N, hN⟩ : ∃ N, w.heap.size = N := ⟨_, rfl⟩
  have hb : Below N w W := by rw [← hW, ← hN]; exact (Below.refl _ _).alloc (Nat.le_refl _) _
  have hlt : N < W.heap.size := by rw [← hW, ← hN]; simp
  have c0 : W.cell? ⟨N, 0, none⟩ = some (.string p) := by rw [← hW, ← hN]; simp
  have c1 : W.cell? ⟨N, 1, none⟩ = some (.int .i64 (k : Int)) := by rw [← hW, ← hN]; simp
  have c2 : W.cell? ⟨N, 2, none⟩ = some (.string d) := by rw [← hW, ← hN]; simp
  have HKS : Hid (∀ X, Below W.heap.size W X → X.cell? ⟨N, 0, none⟩ = some (.string p) ∧ X.cell? ⟨N, 1, none⟩ = some (.int .i64 (k : Int)) ∧ X.cell? ⟨N, 2, none⟩ = some (.string d)) := fun X hX =>
    ⟨(hX.cell (p := ⟨N, 0, none⟩) hlt).trans c0, (hX.cell (p := ⟨N, 1, none⟩) hlt).trans c1, (hX.cell (p := ⟨N, 2, none⟩) hlt).trans c2⟩
  obtain ⟨np, hnp⟩ : ∃ np, numB p.size = np := ⟨_, rfl⟩
  obtain ⟨nd, hnd⟩ : ∃ nd, numB d.size = nd := ⟨_, rfl⟩
  have hnp9 : np.size ≤ 9 := by rw [← hnp]; exact numB_size_nine (by omega)
  have hnd9 : nd.size ≤ 9 := by rw [← hnd]; exact numB_size_nine (by omega)
  have HNP : Hid (∀ X, Calls Tryd.prog 30 #[.int .i64 (p.size : Int)] X fun e w' => e = .returned (.string np) ∧ Below X.heap.size X w') := fun X => by rw [← hnp]; exact rnum_any p.size (by omega) X
  have HND : Hid (∀ X, Calls Tryd.prog 30 #[.int .i64 (d.size : Int)] X fun e w' => e = .returned (.string nd) ∧ Below X.heap.size X w') := fun X => by rw [← hnd]; exact rnum_any d.size (by omega) X
  have hw8 : IntKind.u8.wrap (k : Int) = (k : Int) := by rw [IntKind.wrap_u8]; omega
  obtain ⟨ks, hks⟩ : ∃ ks, strOfNums [(k : Int)] = ks := ⟨_, rfl⟩
  have hcv : ∀ (X : World) (b : Nat), X.cell? ⟨b, 0, none⟩ = some (.int .u8 (k : Int)) → (convert 53 9 (.slice (some ⟨b, 0, none⟩) 1 1)).run Tryd.prog X = .ok (.string ks) X := fun X b h => by rw [← hks]; exact conv_at h
  have HB := Lib.hid hb
  have HLT := Lib.hid hlt
  have hks1 : ks.size = 1 := by rw [← hks, strOfNums_size]; rfl
  have z1 : ¬ 9223372036854775807 < ks.size + np.size := by omega
  have z2 : ¬ 9223372036854775807 < ks.size + np.size + p.size := by omega
  have z3 : ¬ 9223372036854775807 < ks.size + np.size + p.size + nd.size := by omega
  have z4 : ¬ 9223372036854775807 < ks.size + np.size + p.size + nd.size + d.size := by omega
  have HKE := Lib.hid (show layE p k d = ks ++ np ++ p ++ nd ++ d by
    have e : numB k = ks := by
      rw [← hks]
      apply ByteArray.ext
      apply Array.ext'
      rw [numB_list, dg_last hk, strOf_one]
    unfold layE
    rw [e, hnp, hnd])
  clear hks1 hnp hnd hks
  have hka : ∀ (X : World) (o : Obj) (j : Nat), N < X.heap.size → (X.alloc o).cell? ⟨N, j, none⟩ = X.cell? ⟨N, j, none⟩ := fun X o j h => ((Below.refl X.heap.size X).alloc (Nat.le_refl _) o).cell (p := ⟨N, j, none⟩) h
  clear hb
  go_enter Tryd.func21, Tryd.ntmps21
  go_wp2_with fail
  go_region_held (fun X => X.cell? ⟨N, 0, none⟩ = some (.string p) ∧ X.cell? ⟨N, 1, none⟩ = some (.int .i64 (k : Int)) ∧ X.cell? ⟨N, 2, none⟩ = some (.string d))
    ((refine HKS.out _ ?_; (repeat' (first | with_reducible assumption | with_reducible exact Below.refl _ _ | (with_reducible refine Below.drew ?_) | (with_reducible refine Below.alloc ?_ ?_ _) | exact Nat.le_refl _ | omega | (simp <;> omega) | simp))))
    (first
      | (go_at_call 30; with_reducible refine (HNP.out _).mono ?_; rintro e w1 ⟨rfl, hb1⟩; refine below_cps (B := W.heap.size) (w := W) hb1 ?_ ?_ ?_; (focus ((repeat' (first | with_reducible assumption | with_reducible exact Below.refl _ _ | (with_reducible refine Below.drew ?_) | (with_reducible refine Below.alloc ?_ ?_ _) | exact Nat.le_refl _ | omega | (simp <;> omega) | simp)); done)); (focus (first | exact Nat.le_refl _ | omega | (simp <;> omega) | simp)); intro hB1; have hs1 := hB1.size; have hz1 := hb1.size; (try simp at hz1); (try (refine lt_cps (a := W.heap.size) (b := w1.heap.size) ?_ ?_; (focus (omega)); intro hst1)); have hq1 := fun (b : Nat) h => hb1.cell (p := ⟨b, 0, none⟩) h)
      | (go_at_call 30; with_reducible refine (HND.out _).mono ?_; rintro e w2 ⟨rfl, hb2⟩; refine below_cps (B := W.heap.size) (w := W) hb2 ?_ ?_ ?_; (focus ((repeat' (first | with_reducible assumption | with_reducible exact Below.refl _ _ | (with_reducible refine Below.drew ?_) | (with_reducible refine Below.alloc ?_ ?_ _) | exact Nat.le_refl _ | omega | (simp <;> omega) | simp)); done)); (focus (first | exact Nat.le_refl _ | omega | (simp <;> omega) | simp)); intro hB2; have hs2 := hB2.size; have hq2 := fun (b : Nat) h => hb2.cell (p := ⟨b, 0, none⟩) h))
  all_goals
    have hE := HB.out.trans (hB2.mono (Nat.le_of_lt HLT.out))
    have HE := Lib.hid hE
    clear hE
    go_wp2
    go_ret
    exact ⟨by rw [HKE.out]; rfl, by first | exact HE.out | (rw [hN]; exact HE.out) | exact HE.out.alloc HE.out.size _ | (rw [hN]; exact HE.out.alloc (by have := HE.out.size; omega) _) | exact HE.out.alloc (by have := HE.out.size; omega) _⟩
end Go.Proofs.YtdpgdnofiepkoaaDoor
