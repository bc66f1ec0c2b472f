/-
  What the bound of the second form gives: a text among the arguments, or among a list of them, is no longer than the bound. No condition.
-/
import Derived.Test.YtjfjfgahfciflaaDoorRows
import Derived.SliceStrings
namespace Go.Proofs.YtjfjfgahfciflaaDoor
open Go.ChangeShapes

theorem bulk_le {H : Type} {d : DataW H} {l : List (DataW H)} (h : d ∈ l) : Rows.uptoBulk d ≤ Rows.uptoBulkAll l := by
  induction l with
  | nil => cases h
  | cons x r ih =>
    simp only [Rows.uptoBulkAll]
    cases List.mem_cons.1 h with
    | inl e => subst e; omega
    | inr e => have := ih e; omega
theorem bulk_slice {H : Type} (elems spare : List (DataW H)) : Rows.uptoBulkAll elems + 1 ≤ Rows.uptoBulk (.slice elems spare) := by
  simp only [Rows.uptoBulk]
  omega
theorem bulk_string {H : Type} (bytes : List UInt8) : Rows.uptoBulk (DataW.lit (H := H) (.string bytes)) = bytes.length + 1 := by simp [Rows.uptoBulk]
theorem bulk_bound {H : Type} {l : List (DataW H)} (hk : Rows.uptoSmall H l = true) : Rows.uptoBulkAll l ≤ 1048576 := of_decide_eq_true hk
/-- A list of texts among the arguments: each is short. -/
theorem bulk_strs {H : Type} {ds : List (DataW H)} {ss : List ByteArray} {len : Nat} (hk : Rows.uptoBulkAll ds ≤ 1048576) (h : DataW.slice (strs (ss.take len)) (strs (ss.drop len)) ∈ ds) :
    ∀ i, i < len → (ss.getD i ByteArray.empty).size ≤ 1048576 := by
  intro i hi
  rcases Nat.lt_or_ge i ss.length with h1 | h1
  · have e : ss.getD i ByteArray.empty = ss[i] := by simp [List.getD, List.getElem?_eq_getElem h1]
    rw [e]
    have hm : (DataW.lit (H := H) (.string (ss[i]).data.toList)) ∈ strs (ss.take len) := by
      unfold strs
      refine List.mem_map.2 ⟨ss[i], ?_, rfl⟩
      exact List.mem_take_iff_getElem.2 ⟨i, by omega, rfl⟩
    have h2 := bulk_le hm
    have h3 := bulk_le h
    have h4 := bulk_slice (H := H) (strs (ss.take len)) (strs (ss.drop len))
    rw [bulk_string] at h2
    simp only [Array.length_toList, ByteArray.size_data] at h2
    omega
  · have e : ss.getD i ByteArray.empty = ByteArray.empty := by simp [List.getD, List.getElem?_eq_none h1]
    rw [e]; simp
end Go.Proofs.YtjfjfgahfciflaaDoor
