/-
  Contracts of strings.ContainsFunc over path.Name's closure, and of path.Name: for every text. No condition.
-/
import Derived.Test.YtflomllfehoedaaDoorS3Name2
namespace Go.Proofs.YtflomllfehoedaaDoor
open Go.RowKit

set_option maxHeartbeats 1000000 in
theorem containsFunc_name (s : ByteArray) (w : World) :
    Calls Tryd.prog 72 #[.string s, .func (.func 71) #[] #[]] w fun e w' => e = .returned (.bool (!(s.data.toList.all nb))) ∧ Below w.heap.size w w' := by
  have h1 : Calls Tryd.prog 83 #[.string s, .func (.func 71) #[] #[]] w fun e w' => ∃ i : Int, e = .returned (.int .i64 i) ∧ decide (0 ≤ i) = !(s.data.toList.all nb) ∧ Below w.heap.size w w' := by
    go_enter Tryd.func83, Tryd.ntmps83
    go_wp2_with fail
    refine (indexFunc_name s w).mono ?_
    rintro e w1 ⟨i, rfl, hi, hb⟩
    have HI := Lib.hid hi
    have HB := Lib.hid hb
    clear hi hb
    go_wp2
    go_ret
    exact ⟨i, rfl, HI.out, HB.out⟩
  have H1 := Lib.hid h1
  clear h1
  go_enter Tryd.func72, Tryd.ntmps72
  go_wp2_with fail
  refine H1.out.mono ?_
  rintro e w1 ⟨i, rfl, hi, hb⟩
  have HI := Lib.hid hi
  have HB := Lib.hid hb
  clear hi hb
  go_wp2
  go_ret
  exact ⟨by rw [← HI.out] <;> rfl, HB.out⟩

set_option maxHeartbeats 1000000 in
theorem name_any (s : ByteArray) (w : World) :
    Calls Tryd.prog 51 #[.string s] w fun e w' => e = .returned (.bool (nm s.data.toList)) ∧ Below w.heap.size w w' := by
  have hsz := Lib.size_eq s
  by_cases h0 : s.size = 0
  · have hs : s = ⟨#[]⟩ := by
      have : s.data.toList = [] := List.length_eq_zero_iff.1 (by omega)
      rw [← Lib.mk_data s, this]
    subst hs
    go_enter Tryd.func51, Tryd.ntmps51
    go_wp2
    go_ret
    exact ⟨rfl, Below.refl _ _⟩
  · have hne : ¬ s.toList = [] := fun e => by
      rw [Lib.toList_data] at e
      rw [e] at hsz
      exact h0 hsz
    by_cases h8 : s.size ≤ 8
    · have h8' : (s.size : Int) ≤ 8 := by omega
      have hv : nm s.data.toList = s.data.toList.all nb := by
        simp only [nm, ← hsz]
        simp [h8, show 1 ≤ s.size by omega]
      have HV := Lib.hid hv
      clear hv hsz
      go_enter Tryd.func51, Tryd.ntmps51
      go_wp2_with fail
      refine (containsFunc_name s w).mono ?_
      rintro e w1 ⟨rfl, hb⟩
      have HB := Lib.hid hb
      clear hb
      go_wp2
      go_ret
      exact ⟨by rw [HV.out]; simp [hne], HB.out⟩
    · have h8' : ¬ (s.size : Int) ≤ 8 := by omega
      have hv : nm s.data.toList = false := by
        simp only [nm, ← hsz]
        simp [h8]
      have HV := Lib.hid hv
      clear hv hsz
      go_enter Tryd.func51, Tryd.ntmps51
      go_wp2
      go_ret
      exact ⟨by rw [HV.out]; rfl, Below.refl _ _⟩
end Go.Proofs.YtflomllfehoedaaDoor
