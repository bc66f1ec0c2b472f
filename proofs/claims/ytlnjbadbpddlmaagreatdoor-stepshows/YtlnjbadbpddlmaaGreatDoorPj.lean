/-
  What package fold's functions, and package layer's Right, answer, as one statement about all of them (Fold10): the laws of layer 10 are walked over it. Conditions: lists in memory, of at most 1000 entries, texts of at most 100000 bytes.
  What a layer laid over a tree comes to, told by what stays of the tree, what the layer shows, and the order of paths. No condition.
  Whether an entry of a tree goes when a right layer is laid over it, told by what a map of the layer has at the entry's path and at those above it. No condition.
  A map in memory whose keys are of type string, whatever its elements are, told by a function from keys to what stands there: made, looked into, stored into. Condition: keys of at most maxLen bytes.
  The contract of package fold's gone: a closure that holds a map of a layer's kinds. Conditions: the layer lies in memory, has at most 1000 entries, paths of at most 100000 bytes.
  The contract of path.Parent of any path, the root among them. Condition: it is a path.
  The contract of the closure that package fold's gone answers: whether an entry of a tree goes. Conditions: the closure holds the map of a right layer; the entry is right.
-/
import Derived.Test.YtlnjbadbpddlmaaGreatDoorEnv
import Derived.Test.YtlnjbadbpddlmaaGreatDoorS10Few
import Derived.Test.YtlnjbadbpddlmaaGreatDoorPc
import Derived.Test.YtlnjbadbpddlmaaGreatDoorPb
import Derived.WalkKit
import Derived.Maps.OwnOps
import Derived.Maps.Views
import Derived.StringKeys
import Derived.Deep.LoopGhost
import Derived.Lib.Hide
import Derived.IntWalk
import Derived.Test.YtlnjbadbpddlmaaGreatDoorS3ParG
namespace Go.Proofs.YtlnjbadbpddlmaaGreatDoor
open Go.RowKit

def ovV (t l : List Ent) : List Ent := if TreeL t ∧ RightL l ∧ (over t l).length ≤ 1024 then over t l else []
def stV (S : List (List Ent)) : List Ent := if S.length ≤ 9 ∧ ∀ l ∈ S, RightL l then stk S else []
/-- What was there when the call began is as it was. -/
structure St10 (W w : World) : Prop where
  below : Below W.heap.size W w
  env : Env w
theorem st10_self {w : World} (h : Env w) : St10 w w := ⟨Below.refl _ _, h⟩
theorem St10.next {W w w' : World} (h : St10 W w) (hb : Below w.heap.size w w') : St10 W w' := ⟨h.below.trans (hb.mono h.below.size), h.env.below hb⟩
theorem St10.old {W w w' : World} (h : St10 W w) (hb : OldC w w') : St10 W w' := h.next hb
theorem sm_tr {t : List Ent} (h : TR t) (hl : t.length ≤ 1000) : Sm t := ⟨hl, fun e he => by
  obtain ⟨h1, _, _, h4, _⟩ := rightE_parts (h.1.1 e he)
  have h54 := isP_len (isP_of_dp h1)
  rw [← Lib.size_eq] at h54
  omega⟩
theorem stV_tree (S : List (List Ent)) : TR (stV S) ∧ (stV S).length ≤ 576 := by
  unfold stV
  split
  · rename_i h
    have h1 := stk_len h.2
    exact ⟨tr_stk h.2, by have := h.1; omega⟩
  · exact ⟨tr_nil, by simp⟩
theorem stV_sm (S : List (List Ent)) : Sm (stV S) := sm_tr (stV_tree S).1 (by have := (stV_tree S).2; omega)
theorem ovV_tree {t l : List Ent} (ht : TR t) : TR (ovV t l) := by
  unfold ovV
  split
  · rename_i h
    exact tr_over ht h.2.1.2
  · exact tr_nil
end Go.Proofs.YtlnjbadbpddlmaaGreatDoor

namespace Go.Proofs.YtlnjbadbpddlmaaGreatDoor
open Go.RowKit

/-- Does an entry of a tree go when a layer is laid over it? -/
def goes (l : List Ent) (x : Ent) : Bool := l.any fun e => decide (pl x = pl e) || (e.2.1 != 2 && und (pl x) (pl e))
/-- What stays of a tree. -/
def kept (t l : List Ent) : List Ent := t.filter fun x => !goes l x
/-- What a layer shows of its own. -/
def news (l : List Ent) : List Ent := (l.filter fun e => e.2.1 != 3).map sh
theorem goes_false {l : List Ent} {x : Ent} : goes l x = false ↔ ∀ e ∈ l, pl x ≠ pl e ∧ (e.2.1 ≠ 2 → und (pl x) (pl e) = false) := by
  unfold goes
  rw [List.any_eq_false]
  constructor
  · intro h e he
    have h1 := h e he
    rw [Bool.or_eq_true, decide_eq_true_iff, Bool.and_eq_true, bne_iff_ne] at h1
    refine ⟨fun h2 => h1 (.inl h2), fun h2 => ?_⟩
    cases hu : und (pl x) (pl e) with
    | false => rfl
    | true => exact absurd (.inr ⟨h2, hu⟩) h1
  · intro h e he h1
    rw [Bool.or_eq_true, decide_eq_true_iff, Bool.and_eq_true, bne_iff_ne] at h1
    rcases h1 with h1 | ⟨h1, h2⟩
    · exact (h e he).1 h1
    · rw [(h e he).2 h1] at h2
      cases h2
theorem mem_pile {t l : List Ent} {x : Ent} : x ∈ kept t l ++ news l ↔ (∃ e ∈ l, e.2.1 ≠ 3 ∧ x = sh e) ∨ (x ∈ t ∧ ∀ e ∈ l, pl x ≠ pl e ∧ (e.2.1 ≠ 2 → und (pl x) (pl e) = false)) := by
  unfold kept news
  rw [List.mem_append, List.mem_filter, List.mem_map, ← goes_false]
  constructor
  · rintro (⟨h1, h2⟩ | ⟨e, he, rfl⟩)
    · exact .inr ⟨h1, by simpa using h2⟩
    · obtain ⟨h3, h4⟩ := List.mem_filter.1 he
      exact .inl ⟨e, h3, by simpa using h4, rfl⟩
  · rintro (⟨e, he, h1, rfl⟩ | ⟨h1, h2⟩)
    · exact .inr ⟨e, List.mem_filter.2 ⟨he, by simpa using h1⟩, rfl⟩
    · exact .inl ⟨h1, by rw [h2]; rfl⟩
theorem pile_ne {t l : List Ent} (ht : Asc t) (hl : Asc l) : (kept t l ++ news l).Pairwise fun a b => pl a ≠ pl b := by
  rw [List.pairwise_append]
  refine ⟨?_, ?_, ?_⟩
  · exact (List.Pairwise.filter _ ht).imp fun h => lt8_ne h
  · unfold news
    rw [List.pairwise_map]
    exact (List.Pairwise.filter _ hl).imp fun h => by rw [pl_sh, pl_sh]; exact lt8_ne h
  · intro a ha b hb
    obtain ⟨_, h2⟩ := List.mem_filter.1 ha
    unfold news at hb
    obtain ⟨e, he, rfl⟩ := List.mem_map.1 hb
    rw [pl_sh]
    exact (goes_false.1 (by simpa using h2) e (List.mem_filter.1 he).1).1
theorem pile_len (t l : List Ent) : (kept t l ++ news l).length ≤ t.length + l.length := by
  unfold kept news
  rw [List.length_append, List.length_map]
  have h1 := List.length_filter_le (fun x => !goes l x) t
  have h2 := List.length_filter_le (fun e : Ent => e.2.1 != 3) l
  omega
/-- What is there, sorted by its paths, is what the layer laid over the tree comes to. -/
theorem pile_sorted {t l c : List Ent} (ht : Asc t) (hl : Asc l) (hr : ∀ e ∈ l, rE e = true) (hp : c.Perm (kept t l ++ news l)) (hs : c.Pairwise fun a b => lt8 (pl b) (pl a) = false) : c = over t l := by
  have hne : c.Pairwise fun a b => pl a ≠ pl b := (hp.pairwise_iff fun h => Ne.symm h).2 (pile_ne ht hl)
  have hA : Asc c := (hs.and hne).imp fun ⟨h1, h2⟩ => by
    rcases lt8_tri _ _ with h | h | h
    · exact absurd h h2
    · exact h
    · rw [h1] at h
      cases h
  refine asc_ext hA (asc_over ht) fun x => ?_
  rw [hp.mem_iff, mem_pile, mem_over hr hl]
theorem kept_snoc (t l : List Ent) (x : Ent) : kept (t ++ [x]) l = if goes l x = true then kept t l else kept t l ++ [x] := by
  unfold kept
  rw [List.filter_append]
  cases h : goes l x <;> simp [h]
theorem news_snoc (l : List Ent) (x : Ent) : news (l ++ [x]) = if x.2.1 = 3 then news l else news l ++ [sh x] := by
  unfold news
  rw [List.filter_append, List.map_append]
  by_cases h : x.2.1 = 3
  · simp [h]
  · simp [h]
end Go.Proofs.YtlnjbadbpddlmaaGreatDoor

namespace Go.Proofs.YtlnjbadbpddlmaaGreatDoor
open Go.RowKit

/-- What a layer's map has. -/
def kd (l : List Ent) : List UInt8 → Option Value := l.foldl (fun f e => fun x => if x = pl e then some (.int .i64 e.2.1) else f x) fun _ => none
theorem kd_snoc (l : List Ent) (e : Ent) : kd (l ++ [e]) = fun x => if x = pl e then some (.int .i64 e.2.1) else kd l x := by unfold kd; rw [List.foldl_append]; rfl
theorem kd_fnd {l : List Ent} (h : Asc l) (p : List UInt8) : kd l p = (fnd l p).map fun e => .int .i64 e.2.1 := by
  have key : ∀ n (l : List Ent), l.length = n → Asc l → kd l p = (fnd l p).map fun e => .int .i64 e.2.1 := by
    intro n
    induction n with
    | zero => intro l hl _; rw [List.length_eq_zero_iff.1 hl]; rfl
    | succ n ih =>
      intro l hl hA
      rcases List.eq_nil_or_concat l with rfl | ⟨r, e, rfl⟩
      · simp at hl
      · rw [List.concat_eq_append] at *
        obtain ⟨h1, h2⟩ := asc_snoc.1 hA
        rw [kd_snoc]
        show (if p = pl e then some (.int .i64 e.2.1) else kd r p) = _
        rw [ih r (by simpa using hl) h1]
        by_cases hp : p = pl e
        · simp only [if_pos hp]
          rw [(fnd_some hA).2 ⟨by simp, hp.symm⟩]
          rfl
        · simp only [if_neg hp]
          congr 1
          unfold fnd
          rw [List.find?_append, List.find?_cons_of_neg (by simpa using fun h => hp h.symm)]
          simp
  exact key _ l rfl h
/-- Is a path, or one above it, that of an entry that lets nothing through? -/
def gup (l : List Ent) (p : List UInt8) : Bool := l.any fun e => e.2.1 != 2 && (decide (p = pl e) || und p (pl e))
/-- Is it the path itself? -/
def gat (l : List Ent) (p : List UInt8) : Bool := match fnd l p with
  | some e => e.2.1 != 2
  | none => false
theorem gup_any {l : List Ent} {p : List UInt8} (f : Ent → Bool) (h : ∀ e ∈ l, (e.2.1 != 2 && (decide (p = pl e) || und p (pl e))) = f e) : gup l p = l.any f := by
  unfold gup
  rw [Bool.eq_iff_iff, List.any_eq_true, List.any_eq_true]
  exact ⟨fun ⟨e, h1, h2⟩ => ⟨e, h1, by rw [← h e h1]; exact h2⟩, fun ⟨e, h1, h2⟩ => ⟨e, h1, by rw [h e h1]; exact h2⟩⟩
theorem gat_any {l : List Ent} (hA : Asc l) (p : List UInt8) : gat l p = l.any fun e => e.2.1 != 2 && decide (p = pl e) := by
  unfold gat
  cases hf : fnd l p with
  | none =>
    have := fnd_none.1 hf
    rw [eq_comm, List.any_eq_false]
    intro e he h
    rw [Bool.and_eq_true, decide_eq_true_iff] at h
    exact this e he h.2.symm
  | some e =>
    obtain ⟨h1, h2⟩ := (fnd_some hA).1 hf
    show (e.2.1 != 2) = _
    rw [Bool.eq_iff_iff, List.any_eq_true]
    constructor
    · intro h
      exact ⟨e, h1, by rw [h, decide_eq_true h2.symm]; rfl⟩
    · rintro ⟨x, h3, h4⟩
      rw [Bool.and_eq_true, decide_eq_true_iff] at h4
      obtain rfl := asc_inj hA h1 h3 (h2.trans h4.2)
      exact h4.1
theorem any_or {α : Type} (l : List α) (f g : α → Bool) : (l.any fun e => f e || g e) = (l.any f || l.any g) := by
  induction l with
  | nil => rfl
  | cons x r ih => simp only [List.any_cons, ih]; cases f x <;> cases g x <;> simp
theorem gup_step {l : List Ent} (hA : Asc l) {p : List UInt8} (hp : isP p) (h1 : p ≠ [47]) : gup l p = (gat l p || gup l (par9 p)) := by
  rw [gat_any hA]
  unfold gup
  rw [← any_or]
  congr 1
  funext e
  rw [und_par9 hp h1, show decide (pl e = par9 p) = decide (par9 p = pl e) from by rw [decide_eq_decide]; exact eq_comm]
  cases e.2.1 != 2 <;> simp
theorem root_und (q : List UInt8) : und [47] q = false := by
  cases h : und [47] q with
  | false => rfl
  | true =>
    obtain ⟨h1, h2⟩ := und_longer h
    have h3 : isP q := by
      unfold und at h
      exact (of_decide_eq_true h).2.1
    have := h3.1
    cases q with
    | nil => simp at this
    | cons c r => simp at h2
theorem gup_root {l : List Ent} (hr : ∀ e ∈ l, rE e = true) : gup l [47] = false ∧ gat l [47] = false := by
  refine ⟨?_, ?_⟩
  · unfold gup
    rw [List.any_eq_false]
    intro e he h
    rw [root_und, Bool.or_false, Bool.and_eq_true, decide_eq_true_iff] at h
    exact (rE_isP (hr e he)).2 h.2.symm
  · unfold gat
    rw [fnd_none.2 fun e he => (rE_isP (hr e he)).2]
theorem goes_gup {l : List Ent} {x : Ent} (hx : rE x = true) : goes l x = ((fnd l (pl x)).isSome || gup l (par9 (pl x))) := by
  obtain ⟨p1, p2⟩ := rE_isP hx
  have h1 : (fnd l (pl x)).isSome = l.any fun e => decide (pl x = pl e) := by
    unfold fnd
    rw [Bool.eq_iff_iff, List.find?_isSome, List.any_eq_true]
    constructor
    · rintro ⟨e, h1, h2⟩
      exact ⟨e, h1, by simpa using (by simpa using h2 : pl e = pl x).symm⟩
    · rintro ⟨e, h1, h2⟩
      exact ⟨e, h1, by simpa using (by simpa using h2 : pl x = pl e).symm⟩
  rw [h1]
  unfold goes gup
  rw [← any_or]
  congr 1
  funext e
  rw [und_par9 p1 p2, show decide (pl e = par9 (pl x)) = decide (par9 (pl x) = pl e) from by rw [decide_eq_decide]; exact eq_comm]
end Go.Proofs.YtlnjbadbpddlmaaGreatDoor

namespace Go.Proofs.YtlnjbadbpddlmaaGreatDoor
open Go.RowKit Go.Maps Go.WideMaps

/-- An element of any type, taken as it is. -/
def anyElemS (v : Value) : Option (DataW Value × List MemPlace) := some (.held v, [])
/-- Block b is a map of at most n entries; at each key stands what f says. -/
def MapS (P : Program) (k : TypeId) (w : World) (b n : Nat) (f : List UInt8 → Option Value) : Prop :=
  ∃ D : DataW Value, w.ownsMap P k anyElemS b n D ∧ ∀ i : ByteArray, i.size ≤ maxLen → ∀ zd, D.atKey (.string i.data.toList) zd = (match f i.data.toList with | some v => .held v | none => zd)

variable {P : Program} {t k e : TypeId} {w : World} {b n : Nat} {f : List UInt8 → Option Value}
theorem mapS_made (P : Program) (k : TypeId) (w : World) : MapS P k (w.alloc (.map #[] 0)) w.heap.size 0 fun _ => none :=
  ⟨_, World.ownsMap_made w P k anyElemS, fun _ _ _ => rfl⟩
theorem MapS.lt (h : MapS P k w b n f) : b < w.heap.size := h.elim fun _ h => h.1.lt
theorem MapS.mono (h : MapS P k w b n f) {n' : Nat} (hn : n ≤ n') : MapS P k w b n' f := h.elim fun D h => ⟨D, h.1.mono hn, h.2⟩
theorem MapS.of_block {w' : World} (h : MapS P k w b n f) (hb : w'.heap[b]? = w.heap[b]?) : MapS P k w' b n f := by
  obtain ⟨D, ⟨es, clock, h1, h2⟩, h3⟩ := h
  exact ⟨D, ⟨es, clock, hb.trans h1, h2⟩, h3⟩
theorem MapS.below {w' : World} (h : MapS P k w b n f) (hb : Below w.heap.size w w') : MapS P k w' b n f := h.of_block (hb.block b h.lt)
theorem MapS.kept {w' : World} {row : Option Nat} (h : MapS P k w b n f) (hg : w.grownBy w' row) (hne : some b ≠ row) : MapS P k w' b n f := h.elim fun D h => ⟨D, h.1.kept hg hne, h.2⟩
theorem MapS.look (h : MapS P k w b n f) (hk : P.underlying k = some .string) (ht : P.underlying t = some (.map k e)) {z : Value} (hz : (zeroValue e).run P w = .ok z w) {i : ByteArray} (hi : i.size ≤ maxLen) :
    (Instr.lookup t (.map (some b)) (.string i) false).run P w = .ok ((f i.data.toList).getD z) w ∧ (Instr.lookup t (.map (some b)) (.string i) true).run P w = .ok (.tuple #[(f i.data.toList).getD z, .bool (f i.data.toList).isSome]) w := by
  obtain ⟨D, ⟨es, clock, hb, F, _, rfl⟩, hat⟩ := h
  have ha := hat i hi
  have two : ∀ c, (Instr.lookup t (.map (some b)) (.string i) c).run P w = .ok (if c then .tuple #[(f i.data.toList).getD z, .bool (f i.data.toList).isSome] else (f i.data.toList).getD z) w := fun c => by
    rcases Maps.fit_look c (string_keyed hk) ht hz hb F (keyOf_string_mk hk hi) with ⟨hrun, _, hn⟩ | ⟨e0, y, _, _, hrun, hR, hy, _⟩
    · have hf : f i.data.toList = none := by
        cases hf : f i.data.toList with
        | none => rfl
        | some v =>
          have h1 := ha .nil
          rw [hf, hn .nil] at h1
          cases h1
      rw [hrun, hf]
      rfl
    · have hf : f i.data.toList = some e0.val := by
        have h0 : y = (.held e0.val, []) := (Option.some.inj hR).symm
        have h1 := ha .nil
        rw [hy .nil, h0] at h1
        cases hf : f i.data.toList with
        | none => rw [hf] at h1; cases h1
        | some v => rw [hf] at h1; injection h1 with h1; rw [h1]
      rw [hrun, hf]
      rfl
  exact ⟨two false, two true⟩
theorem MapS.put (h : MapS P k w b n f) (hk : P.underlying k = some .string) (ht : P.underlying t = some (.map k e)) (hn : n < maxLen) {i : ByteArray} (hi : i.size ≤ maxLen) (v : Value) :
    ∃ w', (Instr.mapUpdate t (.map (some b)) (.string i) v).run P w = .ok () w' ∧ MapS P k w' b (n + 1) (fun x => if x = i.data.toList then some v else f x) ∧ w.grownBy w' (some b) := by
  obtain ⟨D, ho, hat⟩ := h
  obtain ⟨w', h1, h2, h3⟩ := ho.update (string_keyed hk) ht hn (keyOf_string_mk hk hi) (val := v) (d := .held v) (ps := []) rfl
  refine ⟨w', h1, ⟨_, h2, fun x hx zd => ?_⟩, h3⟩
  obtain ⟨es, clock, _, _, _, rfl⟩ := ho
  by_cases e : x.data.toList = i.data.toList
  · rw [e]
    rw [atKey_put_same ⟨_, rfl⟩ (show WideAt.IsKeyLit (.string i.data.toList) from trivial)]
    simp
  · rw [atKey_put_other (by simpa using e), hat x hx zd]
    simp [e]
end Go.Proofs.YtlnjbadbpddlmaaGreatDoor

namespace Go.Proofs.YtlnjbadbpddlmaaGreatDoor
open Go.RowKit Go.Maps

/-- The map that a closure of gone's holds. -/
structure GoneAt (w : World) (B P : Nat) (l : List Ent) : Prop where
  low : B ≤ P ∧ P < w.heap.size
  cell : ∃ m n, w.cell? ⟨P, 0, none⟩ = some (.map (some m)) ∧ MapS Tryz.prog 9 w m n (kd l)
theorem GoneAt.below {w w' : World} {B P : Nat} {l : List Ent} (h : GoneAt w B P l) (hb : Below w.heap.size w w') : GoneAt w' B P l := by
  obtain ⟨h1, m, n, h2, h3⟩ := h
  exact ⟨⟨h1.1, Nat.lt_of_lt_of_le h1.2 hb.size⟩, m, n, (hb.cell (p := ⟨P, 0, none⟩) h1.2).trans h2, h3.below hb⟩
theorem take_sn {α : Type} (l : List α) (k : Nat) (h : k < l.length) : l.take (k + 1) = l.take k ++ [l[k]] := by rw [List.take_add_one, List.getElem?_eq_getElem h]; rfl
set_option maxRecDepth 10000 in
set_option maxHeartbeats 2000000 in
theorem gone10 (l : List Ent) (a : Option Addr) (cap : Nat) (w : World) (h : Ents w a cap l) (hs : Sm l) :
    Calls Tryz.prog 29 #[.slice a l.length cap] w fun e w' => ∃ P, e = .returned (.func (.func 46) #[] #[.pointer (some ⟨P, 0, none⟩)]) ∧ GoneAt w' w.heap.size P l ∧ Below w.heap.size w w' := by
  have hmm := @run_makeMap Tryz.prog
  obtain ⟨m, hm⟩ : ∃ m, w.heap.size = m := ⟨_, rfl⟩
  obtain ⟨V, hV⟩ : ∃ V, (w.alloc (.map #[] 0)).alloc (.cells #[.map (some m)] 94) = V := ⟨_, rfl⟩
  have hb0 : Below w.heap.size w (w.alloc (.map #[] 0)) := (Below.refl _ _).alloc (Nat.le_refl _) _
  have hb1 : Below (w.alloc (.map #[] 0)).heap.size (w.alloc (.map #[] 0)) V := by rw [← hV]; exact (Below.refl _ _).alloc (Nat.le_refl _) _
  have HBV := Lib.hid (hb0.trans (hb1.mono hb0.size))
  have HMV := Lib.hid ((mapS_made Tryz.prog 9 w).below hb1)
  have HCP := Lib.hid (show V.cell? ⟨m + 1, 0, none⟩ = some (.map (some m)) by rw [← hV, ← hm]; simp)
  have HLT := Lib.hid (show w.heap.size = m ∧ m + 1 < V.heap.size by rw [← hV]; simp; omega)
  have HE := Lib.hid h
  have HS := Lib.hid hs
  have HCAP := Lib.hid h.1
  rw [hm] at HMV HBV ⊢
  clear h hs hb0 hb1
  go_enter Tryz.func29, Tryz.ntmps29
  go_wp2
  go_loopg [9] l.length (fun g i wx => ∃ k : Nat, i = .int .i64 (k : Int) ∧ k + g = l.length ∧ Hid (wx.cell? ⟨m + 1, 0, none⟩ = some (.map (some m)) ∧ V.heap.size ≤ wx.heap.size) ∧ Hid (MapS Tryz.prog 9 wx m k (kd (l.take k))) ∧ Hid (Below m w wx))
  case atStart => exact ⟨0, rfl, by omega, ⟨HCP.out, Nat.le_refl _⟩, HMV.out, HBV.out⟩
  case round =>
    obtain ⟨k, rfl, hk, HC, HM, HB⟩ := hrel
    have hw : IntKind.i64.wrap ((k : Int) + 1) = (k : Int) + 1 := IntWalk.i64_in _ (by have := HS.out.1; omega)
    by_cases hlt : k < l.length
    · have hlt' : (k : Int) < (l.length : Int) := by omega
      obtain ⟨b, off, rfl, hb, hc⟩ := HE.out.at (show Below w.heap.size w wr by rw [HLT.out.1]; exact HB.out) hlt
      have HN := Lib.hid (show kd (l.take (k + 1)) = fun z => if z = pl l[k] then some (.int .i64 l[k].2.1) else kd (l.take k) z by rw [take_sn l k hlt, kd_snoc])
      have HZ := Lib.hid (HS.out.2 _ (List.getElem_mem hlt))
      obtain ⟨x, hx⟩ : ∃ x, l[k] = x := ⟨_, rfl⟩
      rw [hx] at hc HN HZ
      have c0 := hc.c0
      have c1 := hc.c1
      have c2 := hc.c2
      obtain ⟨W, hW⟩ : ∃ W, wr.alloc (.cells #[.string x.1, .int .i64 x.2.1, .string x.2.2] 41) = W := ⟨_, rfl⟩
      obtain ⟨M, hM⟩ : ∃ M, wr.heap.size = M := ⟨_, rfl⟩
      have hbW : Below wr.heap.size wr W := by rw [← hW]; exact (Below.refl _ _).alloc (Nat.le_refl _) _
      have hq : EnAt W M x.1 x.2.1 x.2.2 := by rw [← hW, ← hM]; exact enAt_new _ _ _ _
      have q0 := hq.c0
      have q1 := hq.c1
      have hcW : W.cell? ⟨m + 1, 0, none⟩ = some (.map (some m)) := (hbW.cell (p := ⟨m + 1, 0, none⟩) (show m + 1 < wr.heap.size by have := HC.out.2; have := HLT.out; omega)).trans HC.out.1
      obtain ⟨w7, hput, hm7, hg7⟩ := (HM.out.below hbW).put (t := 94) (e := 3) Tryz.underlying9 Tryz.underlying94 (by have := HS.out.1; unfold maxLen; omega) (i := x.1) (by have := HZ.out; unfold maxLen; omega) (.int .i64 x.2.1)
      have HM7 := Lib.hid hm7
      have HBW := Lib.hid ((HB.out.trans (hbW.mono (by have := HB.out.size; have := HLT.out; omega))).grown hg7 (by have := HB.out.size; have := hbW.size; have := HLT.out; omega) fun j hj => by cases hj; exact Nat.le_refl _)
      have HC7 := Lib.hid (show w7.cell? ⟨m + 1, 0, none⟩ = some (.map (some m)) ∧ V.heap.size ≤ w7.heap.size from ⟨by
        rw [← hcW]
        exact World.cell?_of_block (hg7.block (m + 1) (by have := hbW.size; have := HC.out.2; have := HLT.out; omega) (by intro e; have := Option.some.inj e; omega)), by have := hg7.size; have := hbW.size; have := HC.out.2; omega⟩)
      clear hc hx hb hbW hq hm7 hg7
      go_wp2
      go_roundg (gk - 1)
      case measure => omega
      case rel => exact ⟨k + 1, by simp, by omega, HC7.out, by rw [HN.out]; exact HM7.out, HBW.out⟩
    · have hlt' : ¬ (k : Int) < (l.length : Int) := by omega
      have HV := Lib.hid (show l.take k = l from List.take_of_length_le (by omega))
      go_wp2
      go_ret
      exact ⟨m + 1, rfl, ⟨⟨by have := HLT.out; omega, by have := HC.out.2; have := HLT.out; omega⟩, m, k, HC.out.1, by rw [← HV.out]; exact HM.out⟩, HB.out⟩
end Go.Proofs.YtlnjbadbpddlmaaGreatDoor

namespace Go.Proofs.YtlnjbadbpddlmaaGreatDoor
open Go.RowKit

theorem at10 (o p : ByteArray) (u : TypeId) (y : Value) (w : World) : Calls Tryz.prog 53 #[.string o, .string p, .iface u y] w
    fun e w' => e = .returned (.iface 123 (.pointer (some ⟨w.heap.size, 0, none⟩))) ∧ Below w.heap.size w w' := by
  go_enter Tryz.func53, Tryz.ntmps53
  go_wp2
  go_ret
  exact ⟨rfl, (Below.refl _ _).alloc (Nat.le_refl _) _⟩
set_option maxHeartbeats 2000000 in
/-- Parent of the root. -/
theorem parRoot10 (w : World) : Calls Tryz.prog 35 #[.string ⟨#[47]⟩] w fun e w' => ∃ u y, e = .returned (.tuple #[.string ⟨#[]⟩, .string ⟨#[]⟩, .iface u y]) ∧ Below w.heap.size w w' := by
  go_enter Tryz.func35, Tryz.ntmps35
  go_wp2_with fail
  refine (deep_any ⟨#[47]⟩ (by decide) _).mono ?_
  rintro e w1 ⟨rfl, hb⟩
  rw [show dp (⟨#[47]⟩ : ByteArray).data.toList = 0 by decide]
  have HB := Lib.hid hb
  clear hb
  go_wp2_with fail
  refine (at10 _ _ _ _ w1).mono ?_
  rintro e w2 ⟨rfl, hb⟩
  have HB2 := Lib.hid (HB.out.trans (hb.mono HB.out.size))
  clear hb
  go_wp2
  go_ret3
  exact ⟨_, _, rfl, HB2.out⟩
/-- Parent of a path: its directory; of the root an error. -/
theorem par10 (p : ByteArray) (hP : isP p.data.toList) (w : World) : Calls Tryz.prog 35 #[.string p] w fun e w' => ∃ d n er, e = .returned (.tuple #[.string d, .string n, er]) ∧ ((p.data.toList = [47] ∧ ∃ u y, er = .iface u y) ∨ (p.data.toList ≠ [47] ∧ er = .nilIface ∧ d.data.toList = par9 p.data.toList)) ∧ Below w.heap.size w w' := by
  by_cases h : p.data.toList = [47]
  · obtain rfl : p = ⟨#[47]⟩ := ba_ext h
    refine (parRoot10 w).mono ?_
    rintro e w' ⟨u, y, rfl, hb⟩
    exact ⟨_, _, _, rfl, .inl ⟨rfl, u, y, rfl⟩, hb⟩
  · obtain ⟨ms, x, _, a2, _, a4, a5⟩ := par9_parts hP h
    refine (parent_good p ms x hP a2 a4 h w).mono ?_
    rintro e w' ⟨d, n, rfl, h1, _, hb⟩
    exact ⟨d, n, _, rfl, .inr ⟨h, rfl, by rw [h1, a5]⟩, hb⟩
end Go.Proofs.YtlnjbadbpddlmaaGreatDoor

namespace Go.Proofs.YtlnjbadbpddlmaaGreatDoor
open Go.RowKit Go.Maps

set_option maxRecDepth 10000 in
set_option maxHeartbeats 2000000 in
theorem gclo10 (l : List Ent) (B P : Nat) (x : Ent) (w : World) (hg : GoneAt w B P l) (hA : Asc l) (hr : ∀ e ∈ l, rE e = true) (hx : rE x = true) :
    Calls Tryz.prog 46 (#[enV x] ++ #[.pointer (some ⟨P, 0, none⟩)]) w fun e w' => e = .returned (.bool (goes l x)) ∧ Below w.heap.size w w' := by
  obtain ⟨p1, p2⟩ := rE_isP hx
  have h54 := isP_len p1
  rw [← Lib.size_eq] at h54
  have HPP := Lib.hid (par9_isP p1 p2)
  have HP1 := Lib.hid p1
  have HP2 := Lib.hid p2
  have HA := Lib.hid hA
  have HR := Lib.hid hr
  obtain ⟨W, hW⟩ : ∃ W, w.alloc (.cells #[.string x.1, .int .i64 x.2.1, .string x.2.2] 41) = W := ⟨_, rfl⟩
  obtain ⟨N, hN⟩ : ∃ N, w.heap.size = N := ⟨_, rfl⟩
  have hb0 : Below w.heap.size w W := by rw [← hW]; exact (Below.refl _ _).alloc (Nat.le_refl _) _
  have hq : EnAt W N x.1 x.2.1 x.2.2 := by rw [← hW, ← hN]; exact enAt_new _ _ _ _
  have q0 := hq.c0
  have HB0 := Lib.hid hb0
  have HQ := Lib.hid hq
  have HG := Lib.hid (hg.below hb0)
  obtain ⟨m, n, hc, hm⟩ := HG.out.cell
  have hz : ∀ W, (zeroValue 3).run Tryz.prog W = .ok (.int .i64 0) W := by intro W; kernel_rfl
  have HLK := Lib.hid (fun (W' : World) (hb : Below W.heap.size W W') (s : ByteArray) (hs : s.size ≤ 100000) => (MapS.look (hm.below hb) Tryz.underlying9 (t := 94) (e := 3) Tryz.underlying94 (hz W') (i := s) (by unfold maxLen; omega)).2)
  have HCE := Lib.hid (fun (W' : World) (hb : Below W.heap.size W W') => (hb.cell (p := ⟨P, 0, none⟩) HG.out.low.2).trans hc)
  have hcP := HCE.out W (Below.refl _ _)
  have hlk := HLK.out W (Below.refl _ _) x.1 (by omega)
  rw [kd_fnd hA] at hlk
  obtain ⟨kv, hkv⟩ : ∃ kv, ((fnd l x.1.data.toList).map fun e => Value.int .i64 e.2.1).getD (.int .i64 0) = kv := ⟨_, rfl⟩
  obtain ⟨g0, hg0⟩ : ∃ g0, ((fnd l x.1.data.toList).map fun e => Value.int .i64 e.2.1).isSome = g0 := ⟨_, rfl⟩
  rw [hkv, hg0] at hlk
  have HGO := Lib.hid (show goes l x = (g0 || gup l (par9 (pl x))) by rw [goes_gup hx, ← hg0, Option.isSome_map])
  have HGU := Lib.hid (fun (p : List UInt8) (hp : isP p) (h1 : p ≠ [47]) => gup_step (l := l) hA hp h1)
  have HGR := Lib.hid (gup_root hr)
  have HGA := Lib.hid (fun p => kd_fnd hA p)
  obtain ⟨R, hR⟩ : ∃ R, goes l x = R := ⟨_, rfl⟩
  rw [hR] at HGO ⊢
  clear hg hA hr hx p1 p2 hb0 hq hm hc h54 hkv hg0 hR
  go_enter Tryz.func46, Tryz.ntmps46
  go_wp2_with fail
  refine (par10 x.1 HP1.out _).mono ?_
  rintro e w1 ⟨d, nm1, er, rfl, ho, hb⟩
  obtain ⟨h9, _⟩ | ⟨_, rfl, hd⟩ := ho
  · exact absurd h9 HP2.out
  have HB1 := Lib.hid (HB0.out.trans (hb.mono HB0.out.size))
  have HW1 := Lib.hid hb
  have HD := Lib.hid hd
  clear hb hd q0 hcP hlk
  go_wp2
  go_loopg [5, 6, 8] 55 (fun g s5 s6 s8 wr => ∃ (gv : Bool) (p : ByteArray), s5 = .bool gv ∧ s6 = .string p ∧ Hid (Below w.heap.size w wr) ∧ Hid (Below W.heap.size W wr) ∧ ((s8 = .nilIface ∧ p.size + 1 ≤ g ∧ p.size ≤ 54 ∧ Hid (isP p.data.toList ∧ R = (gv || gup l p.data.toList))) ∨ (∃ u y, s8 = .iface u y ∧ Hid (R = gv))))
  case atStart =>
    have h1 := HPP.out
    rw [← HD.out] at h1
    have h2 := isP_len h1.1
    rw [← Lib.size_eq] at h2
    exact ⟨g0, d, rfl, rfl, HB1.out, HW1.out, .inl ⟨rfl, by omega, by omega, h1.1, by rw [HGO.out, HD.out]⟩⟩
  case round =>
    obtain ⟨gv, p, rfl, rfl, HB, HW, ⟨rfl, hpg, hp54, HI⟩ | ⟨u, y, rfl, HI⟩⟩ := hrel
    · cases gv with
      | true =>
        go_wp2
        go_ret
        exact ⟨by rw [HI.out.2]; rfl, HB.out⟩
      | false =>
        have hcP := HCE.out wr HW.out
        have hlk := HLK.out wr HW.out p (by omega)
        rw [HGA.out p.data.toList] at hlk
        have HIR := Lib.hid (show R = gup l p.data.toList by rw [HI.out.2, Bool.false_or])
        cases hf : fnd l p.data.toList with
        | none =>
          rw [hf] at hlk
          have HT := Lib.hid (show gat l p.data.toList = false by unfold gat; rw [hf])
          simp only [Option.map_none, Option.getD_none, Option.isSome_none] at hlk
          clear hf
          go_wp2_with fail
          refine (par10 p HI.out.1 _).mono ?_
          rintro r w2 ⟨d2, nm2, er, rfl, ho, hb⟩
          have HB2 := Lib.hid (HB.out.trans (hb.mono HB.out.size))
          have HW2 := Lib.hid (HW.out.trans (hb.mono HW.out.size))
          clear hb hcP hlk
          rcases ho with ⟨h9, u, y, rfl⟩ | ⟨h9, rfl, hd2⟩
          · have HV := Lib.hid (show R = false by
              have h1 := HGR.out
              rw [← h9] at h1
              rw [HIR.out, h1.1, ← HT.out, h1.2])
            clear h9
            go_wp2
            go_roundg 0
            case measure => omega
            case rel => exact ⟨false, d2, by simp, rfl, HB2.out, HW2.out, .inr ⟨u, y, rfl, HV.out⟩⟩
          · have HV := Lib.hid (show isP d2.data.toList ∧ R = (false || gup l d2.data.toList) by
              rw [hd2]
              exact ⟨(par9_isP HI.out.1 h9).1, by rw [HIR.out, HGU.out _ HI.out.1 h9, HT.out]⟩)
            have HS := Lib.hid (show d2.size < p.size by
              rw [Lib.size_eq, Lib.size_eq, hd2]
              exact (par9_isP HI.out.1 h9).2)
            clear h9 hd2
            go_wp2
            go_roundg (gk - 1)
            case measure => have := HS.out; omega
            case rel => exact ⟨false, d2, by simp, rfl, HB2.out, HW2.out, .inl ⟨rfl, by have := HS.out; omega, by have := HS.out; omega, HV.out⟩⟩
        | some e =>
          rw [hf] at hlk
          have HT := Lib.hid (show gat l p.data.toList = (e.2.1 != 2) by unfold gat; rw [hf])
          simp only [Option.map_some, Option.getD_some, Option.isSome_some] at hlk
          clear hf
          go_wp2_with fail
          refine (par10 p HI.out.1 _).mono ?_
          rintro r w2 ⟨d2, nm2, er, rfl, ho, hb⟩
          have HB2 := Lib.hid (HB.out.trans (hb.mono HB.out.size))
          have HW2 := Lib.hid (HW.out.trans (hb.mono HW.out.size))
          clear hb hcP hlk
          rcases ho with ⟨h9, u, y, rfl⟩ | ⟨h9, rfl, hd2⟩
          · have HV := Lib.hid (show R = (e.2.1 != 2) by
              have h1 := HGR.out
              rw [← h9] at h1
              rw [HIR.out, h1.1, ← HT.out, h1.2])
            clear h9
            go_wp2
            go_roundg 0
            case measure => omega
            case rel => exact ⟨(e.2.1 != 2), d2, by simp, rfl, HB2.out, HW2.out, .inr ⟨u, y, rfl, HV.out⟩⟩
          · have HV := Lib.hid (show isP d2.data.toList ∧ R = ((e.2.1 != 2) || gup l d2.data.toList) by
              rw [hd2]
              exact ⟨(par9_isP HI.out.1 h9).1, by rw [HIR.out, HGU.out _ HI.out.1 h9, HT.out]⟩)
            have HS := Lib.hid (show d2.size < p.size by
              rw [Lib.size_eq, Lib.size_eq, hd2]
              exact (par9_isP HI.out.1 h9).2)
            clear h9 hd2
            go_wp2
            go_roundg (gk - 1)
            case measure => have := HS.out; omega
            case rel => exact ⟨(e.2.1 != 2), d2, by simp, rfl, HB2.out, HW2.out, .inl ⟨rfl, by have := HS.out; omega, by have := HS.out; omega, HV.out⟩⟩
    · go_wp2
      go_ret
      exact ⟨by rw [HI.out]; rfl, HB.out⟩
end Go.Proofs.YtlnjbadbpddlmaaGreatDoor
