/-
  The contract of the document's own Under of two paths (package shaleref10). Condition: the texts' sizes fit.
-/
import Derived.Test.YtkclclhmeenncaaDoorPb
import Derived.Lib.Hide
import Derived.IntWalk
namespace Go.Proofs.YtkclclhmeenncaaDoor
open Go.RowKit

/-- Does a text begin with another one and a slash? -/
def upx (p d : List UInt8) : Bool := (d ++ [47]).isPrefixOf p
theorem upx_und {p d : List UInt8} (hp : isP p) (hd : isP d) (h : d ≠ [47]) : upx p d = und p d := by
  rw [und_eq hp hd, if_neg h]
  rfl
theorem upx_long {p d : List UInt8} (h : ¬ d.length < p.length) : upx p d = false := by
  unfold upx
  cases hx : (d ++ [47]).isPrefixOf p with
  | false => rfl
  | true =>
    have := (List.isPrefixOf_iff_prefix.1 hx).length_le
    simp at this
    omega
theorem upx_take (p d : List UInt8) : upx p d = decide (p.take (d.length + 1) = d ++ [47]) := by
  unfold upx
  rw [Bool.eq_iff_iff, List.isPrefixOf_iff_prefix, decide_eq_true_iff, List.prefix_iff_eq_take]
  simp only [List.length_append, List.length_cons, List.length_nil]
  exact eq_comm
set_option maxRecDepth 10000 in
set_option maxHeartbeats 1000000 in
theorem refUnd (p d : ByteArray) (hd : d.size ≤ 100000) (w : World) : Calls Tryd.prog 19 #[.string p, .string d] w fun e w' => e = .returned (.bool (upx p.data.toList d.data.toList)) ∧ w = w' := by
  by_cases h : d.size < p.size
  · have h' : (d.size : Int) < (p.size : Int) := by omega
    have hw : IntKind.i64.wrap ((d.size : Int) + 1) = (d.size : Int) + 1 := IntWalk.i64_in _ (by omega)
    have z1 : ¬ 9223372036854775807 < d.size + 1 := by omega
    have hle : (d.size : Int) + 1 ≤ (p.size : Int) := by omega
    have HV := Lib.hid (show ((p.extract 0 (d.size + 1)).toList == (d ++ ⟨#[47]⟩).toList) = upx p.data.toList d.data.toList by
      rw [upx_take, Bool.eq_iff_iff, beq_iff_eq, decide_eq_true_iff, Lib.toList_data, Lib.toList_data]
      simp [ByteArray.data_append])
    clear hd
    go_enter Tryd.func19, Tryd.ntmps19
    go_wp2
    go_ret
    exact ⟨by rw [← HV.out]; first | rfl | simp, rfl⟩
  · have h' : ¬ (d.size : Int) < (p.size : Int) := by omega
    have HV := Lib.hid (upx_long (p := p.data.toList) (d := d.data.toList) (by rw [← Lib.size_eq, ← Lib.size_eq]; exact h))
    clear hd
    go_enter Tryd.func19, Tryd.ntmps19
    go_wp2
    go_ret
    exact ⟨by rw [HV.out]; rfl, rfl⟩
end Go.Proofs.YtkclclhmeenncaaDoor
