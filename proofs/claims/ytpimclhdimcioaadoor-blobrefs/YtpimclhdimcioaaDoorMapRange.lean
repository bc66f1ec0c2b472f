/-
  A range over a map whose keys are of type int, under way: which keys are still to come, said by a function; its start and its step. No condition.
-/
import Derived.Test.YtpimclhdimcioaaDoorMapOf
import Derived.Maps.RangeWalk
namespace Go.Proofs.YtpimclhdimcioaaDoor
open Go.RowKit Go.Maps

/-- Block r ranges over the map in block b, which holds f; left: the keys that are still to come. -/
def RgOf (P : Program) (k : TypeId) (w : World) (b r n : Nat) (f : Int → Option Value) (left : Int → Bool) : Prop :=
  ∃ (D : DataW Value) (lf : Lit → Bool) (cnt : Nat), w.ranges P k anyElem b r n D lf cnt ∧ (∀ i, (Lit.int .i64 i).wf = true → ∀ zd, D.atKey (.int .i64 i) zd = (match f i with | some v => .held v | none => zd)) ∧ ∀ i, (Lit.int .i64 i).wf = true → lf (.int .i64 i) = left i

section
variable {P : Program} {k : TypeId} {w : World} {b r n : Nat} {f : Int → Option Value} {left : Int → Bool}
theorem RgOf.map (h : RgOf P k w b r n f left) : MapOf P k w b n f := by
  obtain ⟨D, lf, cnt, h1, h2, _⟩ := h
  exact ⟨D, h1.owns, h2⟩
theorem RgOf.ne (h : RgOf P k w b r n f left) : r ≠ b := by
  obtain ⟨D, lf, cnt, h1, _⟩ := h
  exact h1.ne
theorem RgOf.lt (h : RgOf P k w b r n f left) : r < w.heap.size := by
  obtain ⟨D, lf, cnt, h1, _⟩ := h
  exact h1.lt
theorem RgOf.kept {w' : World} {row : Option Nat} (h : RgOf P k w b r n f left) (hg : w.grownBy w' row) (hb : some b ≠ row) (hr : some r ≠ row) : RgOf P k w' b r n f left := by
  obtain ⟨D, lf, cnt, h1, h2⟩ := h
  exact ⟨D, lf, cnt, h1.kept hg hb hr, h2⟩
theorem RgOf.of_blocks {w' : World} (h : RgOf P k w b r n f left) (hb : w'.heap[b]? = w.heap[b]?) (hr : w'.heap[r]? = w.heap[r]?) : RgOf P k w' b r n f left ∧ w'.rangeLeft b r = w.rangeLeft b r := by
  obtain ⟨D, lf, cnt, ⟨es, clock, since, seen, c0, h1, F, hs, hD, h2, rest⟩, h3⟩ := h
  exact ⟨⟨D, lf, cnt, ⟨es, clock, since, seen, c0, hb.trans h1, F, hs, hD, hr.trans h2, rest⟩, h3⟩, by simp only [World.rangeLeft, hb, hr]⟩
end

section
variable {P : Program} (w : World) {ops : Array Oper} {rest : List Oper} {o : Oper} {a : Act} {Q : Exit → Act → World → Prop}
theorem wl_range_of (hg : o.guard = none) (m : Operand) (t : TypeId) (hop : o.op = Op.range t m) (k e : TypeId) (hk : P.underlying k = some (.int .i64)) (ht : P.underlying t = some (.map k e)) (b n : Nat) (f : Int → Option Value)
    (hm : a.eval m = .map (some b)) (h : MapOf P k w b n f)
    (hK : ∀ w', RgOf P k w' b w.heap.size n f (fun i => (f i).isSome) → w.grownBy w' none → w'.heap.size = w.heap.size + 1 → wpList P ops Q rest (a.put o.dst (.pointer (some ⟨w.heap.size, 0, none⟩))) w') :
    wpList P ops Q (o :: rest) a w := by
  obtain ⟨D, h1, h2⟩ := h
  refine wpList_range_own w hg m t hop k e (int_keyed hk) ht anyElem b n D hm h1 fun w' hr hgr hs => hK w' ⟨D, _, _, hr, h2, fun i hi => ?_⟩ hgr hs
  have ha := h2 i hi
  cases hf : f i with
  | none => rw [hf] at ha; rw [has_false_of_atKey ha]; simp [hf]
  | some v => rw [hf] at ha; rw [has_true_of_atKey ha]; simp [hf]

theorem wl_next_of (hg : o.guard = none) (it : Operand) (hop : o.op = Op.next it false) (k : TypeId) (hk : P.underlying k = some (.int .i64)) (b r n : Nat) (f : Int → Option Value) (left : Int → Bool)
    (hit : a.eval it = .pointer (some ⟨r, 0, none⟩)) (h : RgOf P k w b r n f left)
    (hDone : (∀ i, (Lit.int .i64 i).wf = true → left i = false) → wpList P ops Q rest (a.put o.dst (.tuple #[.bool false])) w)
    (hMore : ∀ (x : Int) (v : Value) (w' : World), (Lit.int .i64 x).wf = true → left x = true → f x = some v → RgOf P k w' b r n f (fun z => left z && !(z == x)) → w'.rangeLeft b r < w.rangeLeft b r →
      w.grownBy w' (some r) → w'.heap.size = w.heap.size → (Instr.entry (.pointer (some ⟨r, 0, none⟩))).run P w' = .ok (.tuple #[.int .i64 x, v]) w' → wpList P ops Q rest (a.put o.dst (.tuple #[.bool true, .int .i64 x, v])) w') :
    wpList P ops Q (o :: rest) a w := by
  obtain ⟨D, lf, cnt, hr, hat, hl⟩ := h
  refine wpList_next_ranges w hg it hop k (int_keyed hk) anyElem (Value.int .i64) (fun v : Value => v) (fun key kl hkey => by obtain ⟨x, rfl, _⟩ := Maps.keyOf_int_inv hk hkey; exact ⟨x, rfl⟩) (fun v y _ => ⟨v, rfl⟩) b r n D lf cnt hit hr
    (fun _ h0 => hDone fun i hi => by rw [← hl i hi]; exact h0 _) (fun x c kl y w' cnt' hkey hlk hv ha hrg hlt hgr hsz hen => ?_)
  obtain ⟨x', ex, rfl, hwx⟩ := Maps.keyOf_int_inv hk hkey
  cases ex
  have hy : y = (.held c, []) := (Option.some.inj hv).symm
  have hf : f x = some c := by
    have h1 := hat x hwx .nil
    rw [ha .nil, hy] at h1
    cases hf : f x with
    | none => rw [hf] at h1; cases h1
    | some v => rw [hf] at h1; injection h1 with h1; rw [h1]
  refine hMore x c w' hwx (by rw [← hl x hwx]; exact hlk) hf ⟨D, _, cnt', hrg, hat, fun i hi => ?_⟩ (by rw [hrg.left_eq, hr.left_eq]; exact hlt) hgr hsz hen
  rw [hl i hi]
  congr 1
  by_cases e : i = x
  · subst e
    simp [Lit.sameKey]
  · simp [Lit.sameKey, e]
end
end Go.Proofs.YtpimclhdimcioaaDoor
