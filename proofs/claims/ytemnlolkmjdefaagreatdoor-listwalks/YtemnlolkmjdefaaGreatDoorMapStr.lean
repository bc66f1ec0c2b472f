/-
  A map in memory whose keys are of type string, whatever its elements are, told by a function from keys to what stands there: made, looked into, stored into. Condition: keys of at most maxLen bytes.
-/
import Derived.WalkKit
import Derived.Maps.OwnOps
import Derived.Maps.Views
import Derived.StringKeys
namespace Go.Proofs.YtemnlolkmjdefaaGreatDoor
open Go.RowKit Go.Maps Go.WideMaps

/-- An element of any type, taken as it is. -/
def anyElemS (v : Value) : Option (DataW Value × List MemPlace) := some (.held v, [])
/-- Block b is a map of at most n entries; at each key stands what f says. -/
def MapS (P : Program) (k : TypeId) (w : World) (b n : Nat) (f : List UInt8 → Option Value) : Prop :=
  ∃ D : DataW Value, w.ownsMap P k anyElemS b n D ∧ ∀ i : ByteArray, i.size ≤ maxLen → ∀ zd, D.atKey (.string i.data.toList) zd = (match f i.data.toList with | some v => .held v | none => zd)

variable {P : Program} {t k e : TypeId} {w : World} {b n : Nat} {f : List UInt8 → Option Value}
theorem mapS_made (P : Program) (k : TypeId) (w : World) : MapS P k (w.alloc (.map #[] 0)) w.heap.size 0 fun _ => none :=
  ⟨_, World.ownsMap_made w P k anyElemS, fun _ _ _ => rfl⟩
theorem MapS.lt (h : MapS P k w b n f) : b < w.heap.size := h.elim fun _ h => h.1.lt
theorem MapS.mono (h : MapS P k w b n f) {n' : Nat} (hn : n ≤ n') : MapS P k w b n' f := h.elim fun D h => ⟨D, h.1.mono hn, h.2⟩
theorem MapS.of_block {w' : World} (h : MapS P k w b n f) (hb : w'.heap[b]? = w.heap[b]?) : MapS P k w' b n f := by
  obtain ⟨D, ⟨es, clock, h1, h2⟩, h3⟩ := h
  exact ⟨D, ⟨es, clock, hb.trans h1, h2⟩, h3⟩
theorem MapS.below {w' : World} (h : MapS P k w b n f) (hb : Below w.heap.size w w') : MapS P k w' b n f := h.of_block (hb.block b h.lt)
theorem MapS.kept {w' : World} {row : Option Nat} (h : MapS P k w b n f) (hg : w.grownBy w' row) (hne : some b ≠ row) : MapS P k w' b n f := h.elim fun D h => ⟨D, h.1.kept hg hne, h.2⟩
theorem MapS.look (h : MapS P k w b n f) (hk : P.underlying k = some .string) (ht : P.underlying t = some (.map k e)) {z : Value} (hz : (zeroValue e).run P w = .ok z w) {i : ByteArray} (hi : i.size ≤ maxLen) :
    (Instr.lookup t (.map (some b)) (.string i) false).run P w = .ok ((f i.data.toList).getD z) w ∧ (Instr.lookup t (.map (some b)) (.string i) true).run P w = .ok (.tuple #[(f i.data.toList).getD z, .bool (f i.data.toList).isSome]) w := by
  obtain ⟨D, ⟨es, clock, hb, F, _, rfl⟩, hat⟩ := h
  have ha := hat i hi
  have two : ∀ c, (Instr.lookup t (.map (some b)) (.string i) c).run P w = .ok (if c then .tuple #[(f i.data.toList).getD z, .bool (f i.data.toList).isSome] else (f i.data.toList).getD z) w := fun c => by
    rcases Maps.fit_look c (string_keyed hk) ht hz hb F (keyOf_string_mk hk hi) with ⟨hrun, _, hn⟩ | ⟨e0, y, _, _, hrun, hR, hy, _⟩
    · have hf : f i.data.toList = none := by
        cases hf : f i.data.toList with
        | none => rfl
        | some v =>
          have h1 := ha .nil
          rw [hf, hn .nil] at h1
          cases h1
      rw [hrun, hf]
      rfl
    · have hf : f i.data.toList = some e0.val := by
        have h0 : y = (.held e0.val, []) := (Option.some.inj hR).symm
        have h1 := ha .nil
        rw [hy .nil, h0] at h1
        cases hf : f i.data.toList with
        | none => rw [hf] at h1; cases h1
        | some v => rw [hf] at h1; injection h1 with h1; rw [h1]
      rw [hrun, hf]
      rfl
  exact ⟨two false, two true⟩
theorem MapS.put (h : MapS P k w b n f) (hk : P.underlying k = some .string) (ht : P.underlying t = some (.map k e)) (hn : n < maxLen) {i : ByteArray} (hi : i.size ≤ maxLen) (v : Value) :
    ∃ w', (Instr.mapUpdate t (.map (some b)) (.string i) v).run P w = .ok () w' ∧ MapS P k w' b (n + 1) (fun x => if x = i.data.toList then some v else f x) ∧ w.grownBy w' (some b) := by
  obtain ⟨D, ho, hat⟩ := h
  obtain ⟨w', h1, h2, h3⟩ := ho.update (string_keyed hk) ht hn (keyOf_string_mk hk hi) (val := v) (d := .held v) (ps := []) rfl
  refine ⟨w', h1, ⟨_, h2, fun x hx zd => ?_⟩, h3⟩
  obtain ⟨es, clock, _, _, _, rfl⟩ := ho
  by_cases e : x.data.toList = i.data.toList
  · rw [e]
    rw [atKey_put_same ⟨_, rfl⟩ (show WideAt.IsKeyLit (.string i.data.toList) from trivial)]
    simp
  · rw [atKey_put_other (by simpa using e), hat x hx zd]
    simp [e]
end Go.Proofs.YtemnlolkmjdefaaGreatDoor
