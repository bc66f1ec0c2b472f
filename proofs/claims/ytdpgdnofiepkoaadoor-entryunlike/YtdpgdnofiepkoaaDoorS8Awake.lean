/-
  What the statements of layer 8 share: the document's example, 'few', rules for the walk. Conditions: as each says.
-/
import Derived.Test.YtdpgdnofiepkoaaDoorS8Read
namespace Go.Proofs.YtdpgdnofiepkoaaDoor
open Go.RowKit

/-- The same of a pointer's value, whatever term it is yet. -/
def IsEn (w : World) : Value → Prop
  | .pointer (some ⟨b, 0, none⟩) => ∃ p k d, EnAt w b p k d
  | _ => False
def enO : Option Obj → Value
  | some (.cells cs _ _) => .agg cs
  | _ => undef
def enVal (w : World) : Value → Value
  | .pointer (some ⟨b, 0, none⟩) => enO w.heap[b]?
  | _ => undef
theorem EnAt.is {w : World} {b : Nat} {p d : ByteArray} {k : Int} (h : EnAt w b p k d) : IsEn w (.pointer (some ⟨b, 0, none⟩)) ∧ enVal w (.pointer (some ⟨b, 0, none⟩)) = entV p k d := ⟨⟨p, k, d, h⟩, by show enO w.heap[b]? = _; rw [h]; rfl⟩
theorem old_lden {d : Option Tmp} {ty : TypeId} {pos : String} {af : Array Edge} {g : Option (Nat × Bool)} {x : Operand} {a : Act} {w0 : World} {K : Act → Prop} (h : IsEn w0 (a.eval x)) :
    Oper.quiet Tryd.prog { dst := d, op := .load 23 x, type := ty, pos := pos, after := af, guard := g } a (OldC w0) K = K (a.put d (enVal w0 (a.eval x))) := by
  refine old_eq fun w hw => ?_
  have hl : (Instr.loadAt 23 (a.eval x)).run Tryd.prog w = .ok (enVal w0 (a.eval x)) w := by
    match a.eval x, h with
    | .pointer (some ⟨b, 0, none⟩), ⟨p, k, d, h⟩ =>
      rw [h.is.2]
      exact ld_en (h.below hw)
  unfold execOp
  simp only [Sem.run_bind, Sem.run_pure, Result.andThen_ok, hl]
theorem lay_a : layE ⟨#[47, 97]⟩ 2 ⟨#[]⟩ = ⟨#[2, 2, 47, 97, 0]⟩ := by
  apply ba_ext
  rw [layE_list, dg_last (by decide), show (⟨#[47, 97]⟩ : ByteArray).size = 2 from rfl, dg_last (by decide), show (⟨#[]⟩ : ByteArray).size = 0 from rfl, dg_last (by decide)]
  rfl
theorem right_a : rightE ⟨#[47, 97]⟩ ((2 : Nat) : Int) ⟨#[]⟩ = true := by decide
theorem awake8 (w : World) : Calls Tryd.prog 9 #[] w fun e w' => e = .returned (.bool true) ∧ Below w.heap.size w w' := by
  have HC := Lib.hid (fun X => lay8_good ⟨#[47, 97]⟩ 2 ⟨#[]⟩ right_a X)
  go_enter Tryd.func9, Tryd.ntmps9
  go_wp2_with fail
  refine (HC.out _).mono ?_
  rintro e w1 ⟨rfl, hb1⟩
  rw [lay_a]
  have HB1 := Lib.hid hb1
  clear hb1
  go_wp2_with fail
  refine (code_zero _).mono ?_
  rintro e w2 ⟨rfl, rfl⟩
  go_wp2
  go_ret
  exact ⟨rfl, HB1.out⟩
theorem few8 (p d : ByteArray) (k : Int) (w : World) : Calls Tryd.prog 10 #[entV p k d] w fun e w' => e = .returned (.bool (decide (p.size ≤ 600 ∧ d.size ≤ 600))) ∧ Below w.heap.size w w' := by
  by_cases h1 : p.size ≤ 600
  · have h1' : (p.size : Int) ≤ 600 := by omega
    by_cases h2 : d.size ≤ 600
    · have h2' : (d.size : Int) ≤ 600 := by omega
      rw [decide_eq_true ⟨h1, h2⟩]
      go_enter Tryd.func10, Tryd.ntmps10
      go_wp2
      go_ret
      exact ⟨by first | rfl | simp, (Below.refl _ _).alloc (Nat.le_refl _) _⟩
    · have h2' : ¬ (d.size : Int) ≤ 600 := by omega
      rw [decide_eq_false (fun h => h2 h.2)]
      go_enter Tryd.func10, Tryd.ntmps10
      go_wp2
      go_ret
      exact ⟨by first | rfl | (simp; done) | (simp; omega), (Below.refl _ _).alloc (Nat.le_refl _) _⟩
  · have h1' : ¬ (p.size : Int) ≤ 600 := by omega
    rw [decide_eq_false (fun h => h1 h.1)]
    go_enter Tryd.func10, Tryd.ntmps10
    go_wp2
    go_ret
    exact ⟨by first | rfl | (simp; done) | (simp; omega), (Below.refl _ _).alloc (Nat.le_refl _) _⟩
end Go.Proofs.YtdpgdnofiepkoaaDoor
