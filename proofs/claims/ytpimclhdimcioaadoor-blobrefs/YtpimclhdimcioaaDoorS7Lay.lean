/-
  The contract of package blob's Lay: the bytes of its three numbers. Condition: the sum is one of 32 bits.
-/
import Derived.Test.YtpimclhdimcioaaDoorS7Small
import Derived.Test.YtpimclhdimcioaaDoorOldQ
namespace Go.Proofs.YtpimclhdimcioaaDoor
open Go.RowKit

/-- The bytes that tell where a text lies. -/
def layB (k n s : Int) : ByteArray := numI k ++ numI n ++ numI s
/-- A number lies there; it. -/
def IsC1 (k : IntKind) (w : World) : Value → Prop
  | .pointer (some ⟨b, o, none⟩) => ∃ v, w.cell? ⟨b, o, none⟩ = some (.int k v)
  | _ => False
def c1V (w : World) : Value → Value
  | .pointer (some p) => (w.cell? p).getD undef
  | _ => undef
theorem isC1_ptr (k : IntKind) (w : World) (b o : Nat) : IsC1 k w (.pointer (some ⟨b, o, none⟩)) = ∃ v, w.cell? ⟨b, o, none⟩ = some (.int k v) := rfl
theorem c1V_ptr (w : World) (p : Addr) : c1V w (.pointer (some p)) = (w.cell? p).getD undef := rfl
theorem old_ldi {d : Option Tmp} {ty : TypeId} {pos : String} {af : Array Edge} {g : Option (Nat × Bool)} {x : Operand} {a : Act} {w0 : World} {K : Act → Prop} (h : IsC1 .i64 w0 (a.eval x)) :
    Oper.quiet Tryd.prog { dst := d, op := .load 3 x, type := ty, pos := pos, after := af, guard := g } a (OldC w0) K = K (a.put d (c1V w0 (a.eval x))) := by
  refine old_eq fun w hw => ?_
  have hl : (Instr.loadAt 3 (a.eval x)).run Tryd.prog w = .ok (c1V w0 (a.eval x)) w := by
    match a.eval x, h with
    | .pointer (some ⟨b, o, none⟩), ⟨v, hv⟩ =>
      have h2 := (Below.cell hw (p := ⟨b, o, none⟩) (World.block_lt_of_cell? w0 _ hv)).trans hv
      rw [c1V_ptr, hv]
      simp [go_sem, h2]
  unfold execOp
  simp only [Sem.run_bind, Sem.run_pure, Result.andThen_ok, hl]
theorem old_ldu {d : Option Tmp} {ty : TypeId} {pos : String} {af : Array Edge} {g : Option (Nat × Bool)} {x : Operand} {a : Act} {w0 : World} {K : Act → Prop} (h : IsC1 .u32 w0 (a.eval x)) :
    Oper.quiet Tryd.prog { dst := d, op := .load 30 x, type := ty, pos := pos, after := af, guard := g } a (OldC w0) K = K (a.put d (c1V w0 (a.eval x))) := by
  refine old_eq fun w hw => ?_
  have hl : (Instr.loadAt 30 (a.eval x)).run Tryd.prog w = .ok (c1V w0 (a.eval x)) w := by
    match a.eval x, h with
    | .pointer (some ⟨b, o, none⟩), ⟨v, hv⟩ =>
      have h2 := (Below.cell hw (p := ⟨b, o, none⟩) (World.block_lt_of_cell? w0 _ hv)).trans hv
      rw [c1V_ptr, hv]
      simp [go_sem, h2]
  unfold execOp
  simp only [Sem.run_bind, Sem.run_pure, Result.andThen_ok, hl]
attribute [local go_sem ↓] old_ldi old_ldu
attribute [local go_sem] isC1_ptr c1V_ptr oldC_forall
set_option maxRecDepth 10000 in
set_option maxHeartbeats 1000000 in
theorem lay_any (k n s : Int) (h0 : 0 ≤ s) (h1 : s < 4294967296) (w : World) : Calls Tryd.prog 20 #[refV k n s] w fun e w' => e = .returned (.string (layB k n s)) ∧ Below w.heap.size w w' := by
  have hw : IntKind.i64.wrap s = s := IntWalk.i64_in _ (by omega)
  obtain ⟨a, ha⟩ : ∃ a, numI k = a := ⟨_, rfl⟩
  obtain ⟨b, hb⟩ : ∃ b, numI n = b := ⟨_, rfl⟩
  obtain ⟨c, hc⟩ : ∃ c, numI s = c := ⟨_, rfl⟩
  have a9 := numI_size k
  have b9 := numI_size n
  have c9 := numI_size s
  rw [ha] at a9
  rw [hb] at b9
  rw [hc] at c9
  have HN : Hid (∀ w0 x w', OldC w0 w' → Calls Tryd.prog 31 #[.int .i64 x] w' fun e w'' => e = .returned (.string (numI x)) ∧ OldC w0 w'') := fun w0 x w' hw' => by
    refine (numI_any x w').mono ?_
    rintro e w'' ⟨rfl, hb⟩
    exact ⟨rfl, hw'.then hb⟩
  have HK : Hid (∀ w0 w', OldC w0 w' → Calls Tryd.prog 31 #[.int .i64 k] w' fun e w'' => e = .returned (.string a) ∧ OldC w0 w'') := fun w0 w' hw' => by rw [← ha]; exact HN.out w0 k w' hw'
  have HM : Hid (∀ w0 w', OldC w0 w' → Calls Tryd.prog 31 #[.int .i64 n] w' fun e w'' => e = .returned (.string b) ∧ OldC w0 w'') := fun w0 w' hw' => by rw [← hb]; exact HN.out w0 n w' hw'
  have HS : Hid (∀ w0 w', OldC w0 w' → Calls Tryd.prog 31 #[.int .i64 s] w' fun e w'' => e = .returned (.string c) ∧ OldC w0 w'') := fun w0 w' hw' => by rw [← hc]; exact HN.out w0 s w' hw'
  have hs1 : ¬ 9223372036854775807 < a.size + b.size := by omega
  have hs2 : ¬ 9223372036854775807 < a.size + b.size + c.size := by omega
  have hs3 : (a ++ b).size = a.size + b.size := ByteArray.size_append
  unfold layB
  rw [ha, hb, hc]
  clear ha hb hc HN a9 b9 c9 h0 h1
  go_enter Tryd.func20, Tryd.ntmps20
  go_wp2_with fail
  obtain ⟨W, hW⟩ : ∃ W, w.alloc (.cells #[.int .i64 k, .int .i64 n, .int .u32 s] 32) = W := ⟨_, rfl⟩
  have c0 : W.cell? ⟨w.heap.size, 0, none⟩ = some (.int .i64 k) := by rw [← hW]; simp
  have c1 : W.cell? ⟨w.heap.size, 1, none⟩ = some (.int .i64 n) := by rw [← hW]; simp
  have c2 : W.cell? ⟨w.heap.size, 2, none⟩ = some (.int .u32 s) := by rw [← hW]; simp
  have HB := Lib.hid (show Below w.heap.size w W by rw [← hW]; exact (Below.refl _ _).alloc (Nat.le_refl _) _)
  rw [hW]
  clear hW
  refine wp_region_old (by kernel_rfl) (by kernel_rfl) ?_
  repeat (go_big_quiet_step ((first | (intro hw; with_reducible exact HK.out _ _ hw) | (intro hw; with_reducible exact HM.out _ _ hw) | (intro hw; with_reducible exact HS.out _ _ hw))))
  refine wpQuiet_nil ?_
  intro w9 hw9
  have HE := Lib.hid (show Below w.heap.size w w9 from HB.out.trans (Below.mono hw9 (by have := World.block_lt_of_cell? W _ c0; simp at this; omega)))
  clear hw9
  go_wp2
  go_ret
  exact ⟨by simp, HE.out⟩
end Go.Proofs.YtpimclhdimcioaaDoor
