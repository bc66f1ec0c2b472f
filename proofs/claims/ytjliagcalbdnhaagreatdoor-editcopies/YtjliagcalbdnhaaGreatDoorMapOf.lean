/-
  A map in memory whose keys are of type int, whatever its elements are, told by a function from keys to what stands there: made, looked into, stored into. No condition.
-/
import Derived.WalkKit
import Derived.Maps.OwnOps
import Derived.Maps.Views
namespace Go.Proofs.YtjliagcalbdnhaaGreatDoor
open Go.RowKit Go.Maps

/-- An element of any type, taken as it is. -/
def anyElem (v : Value) : Option (DataW Value × List MemPlace) := some (.held v, [])

/-- Block b is a map of at most n entries; at each key stands what f says. -/
def MapOf (P : Program) (k : TypeId) (w : World) (b n : Nat) (f : Int → Option Value) : Prop :=
  ∃ D : DataW Value, w.ownsMap P k anyElem b n D ∧ ∀ i, (Lit.int .i64 i).wf = true → ∀ zd, D.atKey (.int .i64 i) zd = (match f i with | some v => .held v | none => zd)

variable {P : Program} {t k e : TypeId} {w : World} {b n : Nat} {f : Int → Option Value}

theorem mapOf_made (P : Program) (k : TypeId) (w : World) : MapOf P k (w.alloc (.map #[] 0)) w.heap.size 0 fun _ => none :=
  ⟨_, World.ownsMap_made w P k anyElem, fun _ _ _ => rfl⟩
theorem MapOf.lt (h : MapOf P k w b n f) : b < w.heap.size := h.elim fun _ h => h.1.lt
theorem MapOf.mono (h : MapOf P k w b n f) {n' : Nat} (hn : n ≤ n') : MapOf P k w b n' f := h.elim fun D h => ⟨D, h.1.mono hn, h.2⟩
theorem MapOf.kept {w' : World} {row : Option Nat} (h : MapOf P k w b n f) (hg : w.grownBy w' row) (hne : some b ≠ row) : MapOf P k w' b n f := h.elim fun D h => ⟨D, h.1.kept hg hne, h.2⟩
theorem MapOf.of_block {w' : World} (h : MapOf P k w b n f) (hb : w'.heap[b]? = w.heap[b]?) : MapOf P k w' b n f := by
  obtain ⟨D, ⟨es, clock, h1, h2⟩, h3⟩ := h
  exact ⟨D, ⟨es, clock, hb.trans h1, h2⟩, h3⟩
theorem MapOf.below {w' : World} {B : Nat} (h : MapOf P k w b n f) (hb : Below B w w') (hB : b < B) : MapOf P k w' b n f := h.of_block (hb.block b hB)
theorem MapOf.setCell (h : MapOf P k w b n f) {a : Addr} (hne : b ≠ a.block) (v : Value) : MapOf P k (w.setCell a v) b n f := h.of_block (Below.heap_setCell w a v b hne)

theorem MapOf.look (h : MapOf P k w b n f) (hk : P.underlying k = some (.int .i64)) (ht : P.underlying t = some (.map k e)) {z : Value} (hz : (zeroValue e).run P w = .ok z w) {i : Int} (hi : (Lit.int .i64 i).wf = true) :
    (Instr.lookup t (.map (some b)) (.int .i64 i) false).run P w = .ok ((f i).getD z) w ∧ (Instr.lookup t (.map (some b)) (.int .i64 i) true).run P w = .ok (.tuple #[(f i).getD z, .bool (f i).isSome]) w := by
  obtain ⟨D, ⟨es, clock, hb, F, _, rfl⟩, hat⟩ := h
  have ha := hat i hi
  have two : ∀ c, (Instr.lookup t (.map (some b)) (.int .i64 i) c).run P w = .ok (if c then .tuple #[(f i).getD z, .bool (f i).isSome] else (f i).getD z) w := fun c => by
    rcases Maps.fit_look c (int_keyed hk) ht hz hb F (keyOf_int_mk hk hi) with ⟨hrun, _, hn⟩ | ⟨e0, y, _, _, hrun, hR, hy, _⟩
    · have hf : f i = none := by
        cases hf : f i with
        | none => rfl
        | some v =>
          have h1 := ha .nil
          rw [hf, hn .nil] at h1
          cases h1
      rw [hrun, hf]
      rfl
    · have hf : f i = some e0.val := by
        have h0 : y = (.held e0.val, []) := (Option.some.inj hR).symm
        have h1 := ha .nil
        rw [hy .nil, h0] at h1
        cases hf : f i with
        | none => rw [hf] at h1; cases h1
        | some v => rw [hf] at h1; injection h1 with h1; rw [h1]
      rw [hrun, hf]
      rfl
  exact ⟨two false, two true⟩

theorem MapOf.put (h : MapOf P k w b n f) (hk : P.underlying k = some (.int .i64)) (ht : P.underlying t = some (.map k e)) (hn : n < maxLen) {i : Int} (hi : (Lit.int .i64 i).wf = true) (v : Value) :
    ∃ w', (Instr.mapUpdate t (.map (some b)) (.int .i64 i) v).run P w = .ok () w' ∧ MapOf P k w' b (n + 1) (fun x => if x = i then some v else f x) ∧ w.grownBy w' (some b) := by
  obtain ⟨D, ho, hat⟩ := h
  obtain ⟨w', h1, h2, h3⟩ := ho.update (int_keyed hk) ht hn (keyOf_int_mk hk hi) (val := v) (d := .held v) (ps := []) rfl
  refine ⟨w', h1, ⟨_, h2, fun x hx zd => ?_⟩, h3⟩
  obtain ⟨es, clock, _, _, _, rfl⟩ := ho
  by_cases e : x = i
  · subst e
    rw [atKey_put_same ⟨_, rfl⟩ (show WideAt.IsKeyLit (.int .i64 x) from trivial)]
    simp
  · rw [atKey_put_other (by simpa using e), hat x hx zd]
    simp [e]
end Go.Proofs.YtjliagcalbdnhaaGreatDoor
