/-
  What the layers have at a name of a directory, as a stack of its own, as if the directory were the root; what shows there is what shows at the name's path. No condition.
-/
import Derived.Test.YtlncdmdffpaojaaGreatDoorPb
import Derived.Test.YtlncdmdffpaojaaGreatDoorPa
namespace Go.Proofs.YtlncdmdffpaojaaGreatDoor
open Go.RowKit

/-- A name's path in the root. -/
def rn13 (x : List UInt8) : ByteArray := ⟨(47 :: x).toArray⟩
/-- An entry, at a name of the root. -/
def at1 (x : List UInt8) (e : Ent) : Ent := (rn13 x, e.2.1, e.2.2)
/-- What a layer has at a name of a directory. -/
def own1 (p x : List UInt8) (l : List Ent) : List Ent := match fnd l (cp13 p x) with
  | none => []
  | some e => [at1 x e]
/-- An entry lies in a directory, with that name. -/
def in13 (p x : List UInt8) (e : Ent) : Prop := par9 (pl e) = p ∧ lastN (pl e) = x
/-- The layers, the first k of them whole, j entries of the next one. -/
def cut13 (L : List (List Ent)) (k j i : Nat) : List Ent := if i < k then layN L i else if i = k then (layN L k).take j else []
/-- The stack of a name behind k layers and j entries. -/
def row13 (L : List (List Ent)) (p x : List UInt8) (k j : Nat) (i : Nat) : List Ent := own1 p x (cut13 L k j i)
/-- The names met there. -/
def pre13 (L : List (List Ent)) (p : List UInt8) (k j : Nat) (x : List UInt8) : Prop := (∃ i < k, ∃ e ∈ layN L i, in13 p x e) ∨ ∃ e ∈ (layN L k).take j, in13 p x e

theorem rn_list (x : List UInt8) : (rn13 x).data.toList = 47 :: x := by unfold rn13; simp
theorem pl_at1 (x : List UInt8) (e : Ent) : pl (at1 x e) = 47 :: x := rn_list x
theorem cp_root (x : List UInt8) : cp13 [47] x = 47 :: x := by rw [cp_text isP_root, if_pos rfl]
theorem rn_isP {x : List UInt8} (h : nm x = true) : isP (47 :: x) ∧ (47 :: x) ≠ [47] ∧ par9 (47 :: x) = [47] ∧ lastN (47 :: x) = x := by
  have := cp_parts isP_root h (by decide)
  rwa [cp_root] at this
/-- A name met is one of an entry's path. -/
theorem in_nm {p x : List UInt8} {e : Ent} (he : rE e = true) (h : in13 p x e) : nm x = true ∧ isP p ∧ pl e = cp13 p x ∧ (pcs p).length < 6 := by
  obtain ⟨h1, h2⟩ := rE_isP he
  obtain ⟨a1, a2, a3, a4⟩ := last_parts h1 h2
  have hc := cp_last h1 h2
  rw [h.1] at a1 a2 hc
  rw [h.2] at a2 a3 hc
  refine ⟨a3, a1, hc.symm, ?_⟩
  have := h1.2.1
  rw [a2, List.length_append, List.length_singleton] at this
  omega
theorem in_of_pl {p x : List UInt8} {e : Ent} (hp : isP p) (hx : nm x = true) (hd : (pcs p).length < 6) (h : pl e = cp13 p x) : in13 p x e := by
  obtain ⟨_, _, h3, h4⟩ := cp_parts hp hx hd
  exact ⟨by rw [h, h3], by rw [h, h4]⟩
theorem own1_some {p x : List UInt8} {l : List Ent} (hl : Asc l) {e : Ent} (he : e ∈ l) (hp : pl e = cp13 p x) : own1 p x l = [at1 x e] := by
  unfold own1
  rw [(fnd_some hl).2 ⟨he, hp⟩]
theorem own1_none {p x : List UInt8} {l : List Ent} (h : ∀ e ∈ l, pl e ≠ cp13 p x) : own1 p x l = [] := by
  unfold own1
  rw [fnd_none.2 h]
theorem own1_cases (p x : List UInt8) {l : List Ent} (hl : Asc l) : own1 p x l = [] ∨ ∃ e ∈ l, pl e = cp13 p x ∧ own1 p x l = [at1 x e] := by
  cases h : fnd l (cp13 p x) with
  | none => exact .inl (by unfold own1; rw [h])
  | some e =>
    obtain ⟨h1, h2⟩ := (fnd_some hl).1 h
    exact .inr ⟨e, h1, h2, by unfold own1; rw [h]⟩
/-- What a layer has at a name is a right layer. -/
theorem own1_right {p x : List UInt8} (hx : nm x = true) {l : List Ent} (hl : RightL l) : RightL (own1 p x l) := by
  rcases own1_cases p x hl.2.2.1 with h | ⟨e, he, _, h⟩
  · rw [h]
    exact ⟨by simp, rl_nil⟩
  · rw [h]
    obtain ⟨q1, q2, q3, _⟩ := rn_isP hx
    have hr := hl.2.1 e he
    have hE : rE (at1 x e) = true := by
      unfold rE at hr ⊢
      unfold at1
      rw [rightE_iff] at hr ⊢
      refine ⟨?_, hr.2⟩
      rw [rn_list, dp_pos q1]
      have : pcs (47 :: x) ≠ [] := fun e => q2 ((pcs_nil q1).1 e)
      have := List.length_pos_iff.2 this
      omega
    exact ⟨by simp, fun a ha => by rw [List.mem_singleton.1 ha]; exact hE, List.pairwise_singleton _ _, fun a ha => by rw [List.mem_singleton.1 ha]; exact .inl (by rw [pl_at1]; exact q3)⟩
/-- One entry more: of another name. -/
theorem row_other {L : List (List Ent)} {p x : List UInt8} {k j : Nat} (h : j < (layN L k).length) (hne : pl ((layN L k)[j]) ≠ cp13 p x) : row13 L p x k (j + 1) = row13 L p x k j := by
  funext i
  unfold row13 cut13
  by_cases h1 : i < k
  · rw [if_pos h1, if_pos h1]
  · rw [if_neg h1, if_neg h1]
    by_cases h2 : i = k
    · rw [if_pos h2, if_pos h2, List.take_add_one, List.getElem?_eq_getElem h]
      unfold own1 fnd
      rw [List.find?_append]
      simp [hne]
    · rw [if_neg h2, if_neg h2]
/-- .. of that name. -/
theorem row_hit {L : List (List Ent)} {p x : List UInt8} {k j : Nat} (hA : Asc (layN L k)) (h : j < (layN L k).length) (hp : pl ((layN L k)[j]) = cp13 p x) : row13 L p x k (j + 1) = fun i => if i = k then [at1 x ((layN L k)[j])] else row13 L p x k j i := by
  funext i
  unfold row13 cut13
  by_cases h2 : i = k
  · rw [if_pos h2, if_neg (by omega), if_pos h2]
    have hm : (layN L k)[j] ∈ (layN L k).take (j + 1) := by
      rw [List.take_add_one, List.getElem?_eq_getElem h]
      exact List.mem_append.2 (.inr (by simp))
    exact own1_some (List.Pairwise.sublist (List.take_sublist _ _) hA) hm hp
  · simp only [if_neg h2]
theorem row_layer (L : List (List Ent)) (p x : List UInt8) (k : Nat) : row13 L p x k (layN L k).length = row13 L p x (k + 1) 0 := by
  funext i
  unfold row13 cut13
  rw [List.take_length, List.take_zero]
  by_cases h1 : i < k
  · rw [if_pos h1, if_pos (by omega)]
  · rw [if_neg h1]
    by_cases h2 : i = k
    · rw [if_pos h2, if_pos (by omega), h2]
    · rw [if_neg h2, if_neg (by omega)]
      split <;> rfl
theorem row_start (L : List (List Ent)) {p x : List UInt8} {k j : Nat} (h : ¬ pre13 L p k j x) (hp : isP p) (hx : nm x = true) (hd : (pcs p).length < 6) : row13 L p x k j = fun _ => [] := by
  funext i
  unfold row13
  refine own1_none fun e he hpl => h ?_
  have hin := in_of_pl (e := e) hp hx hd hpl
  unfold cut13 at he
  by_cases h1 : i < k
  · rw [if_pos h1] at he
    exact .inl ⟨i, h1, e, he, hin⟩
  · rw [if_neg h1] at he
    by_cases h2 : i = k
    · rw [if_pos h2] at he
      exact .inr ⟨e, he, hin⟩
    · rw [if_neg h2] at he
      cases he
theorem pre_start (L : List (List Ent)) (p x : List UInt8) : ¬ pre13 L p 0 0 x := by
  rintro (⟨i, h1, _⟩ | ⟨e, h, _⟩)
  · omega
  · simp at h
theorem pre_step {L : List (List Ent)} {p x : List UInt8} {k j : Nat} (h : j < (layN L k).length) : pre13 L p k (j + 1) x ↔ pre13 L p k j x ∨ in13 p x ((layN L k)[j]) := by
  unfold pre13
  rw [List.take_add_one, List.getElem?_eq_getElem h]
  constructor
  · rintro (h1 | ⟨e, h1, h2⟩)
    · exact .inl (.inl h1)
    · rcases List.mem_append.1 h1 with h3 | h3
      · exact .inl (.inr ⟨e, h3, h2⟩)
      · obtain rfl : e = (layN L k)[j] := by simpa using h3
        exact .inr h2
  · rintro ((h1 | ⟨e, h1, h2⟩) | h1)
    · exact .inl h1
    · exact .inr ⟨e, List.mem_append.2 (.inl h1), h2⟩
    · exact .inr ⟨_, List.mem_append.2 (.inr (by simp)), h1⟩
theorem pre_layer (L : List (List Ent)) (p x : List UInt8) (k : Nat) : pre13 L p k (layN L k).length x ↔ pre13 L p (k + 1) 0 x := by
  unfold pre13
  rw [List.take_length]
  constructor
  · rintro (⟨i, h1, h2⟩ | ⟨e, h1, h2⟩)
    · exact .inl ⟨i, by omega, h2⟩
    · exact .inl ⟨k, by omega, e, h1, h2⟩
  · rintro (⟨i, h1, h2⟩ | ⟨e, h1, _⟩)
    · by_cases hi : i < k
      · exact .inl ⟨i, hi, h2⟩
      · obtain rfl : i = k := by omega
        exact .inr h2
    · simp at h1
theorem pre_end {L : List (List Ent)} {p x : List UInt8} : pre13 L p L.length 0 x ↔ ∃ l ∈ L, ∃ e ∈ l, in13 p x e := by
  constructor
  · rintro (⟨i, h1, h2⟩ | ⟨e, h1, _⟩)
    · exact ⟨_, layN_mem h1, h2⟩
    · simp at h1
  · rintro ⟨l, hl, h⟩
    obtain ⟨i, hi, rfl⟩ := List.mem_iff_getElem.1 hl
    refine .inl ⟨i, hi, ?_⟩
    unfold layN
    rw [List.getD_eq_getElem?_getD, List.getElem?_eq_getElem hi]
    exact h
/-- The stack of a name, all layers met. -/
def ownS (L : List (List Ent)) (p x : List UInt8) : List (List Ent) := L.map (own1 p x)
theorem ownS_len (L : List (List Ent)) (p x : List UInt8) : (ownS L p x).length = L.length := List.length_map ..
theorem row_end {L : List (List Ent)} {p x : List UInt8} {i : Nat} (hi : i < L.length) : (ownS L p x)[i]? = some (row13 L p x L.length 0 i) := by
  unfold ownS row13 cut13
  rw [List.getElem?_map, List.getElem?_eq_getElem hi, if_pos hi]
  unfold layN
  rw [List.getD_eq_getElem?_getD, List.getElem?_eq_getElem hi]
  rfl
theorem layN_own (L : List (List Ent)) (p x : List UInt8) (n : Nat) : layN (ownS L p x) n = own1 p x (layN L n) := by
  unfold layN ownS
  rw [List.getD_eq_getElem?_getD, List.getD_eq_getElem?_getD, List.getElem?_map]
  cases L[n]? with
  | none => rfl
  | some l => rfl
theorem layN_drop (S : List (List Ent)) (f n : Nat) : layN (S.drop f) n = layN S (f + n) := by
  unfold layN
  rw [List.getD_eq_getElem?_getD, List.getD_eq_getElem?_getD, List.getElem?_drop]
theorem fnd_own (p x : List UInt8) (l : List Ent) : fnd (own1 p x l) (47 :: x) = (fnd l (cp13 p x)).map (at1 x) := by
  unfold own1
  cases fnd l (cp13 p x) with
  | none => rfl
  | some e =>
    show fnd [at1 x e] (47 :: x) = some (at1 x e)
    unfold fnd
    simp [pl_at1]
/-- What shows at a name of the root of its own stack. -/
theorem up_own (S : List (List Ent)) (p x : List UInt8) (f : Nat) : ∀ n, up12 (ownS (S.drop f) p x) (47 :: x) 0 n = (up12 S (cp13 p x) f (f + n)).map fun z => (at1 x z.1, z.2 - f)
  | 0 => by
    rw [Nat.add_zero, up_none S _ (Nat.le_refl _)]
    rfl
  | n + 1 => by
    have ih := up_own S p x f n
    have hd : ∀ z : Ent × Nat, dP (47 :: x) = at1 x (dP (cp13 p x)) := fun _ => rfl
    show up12 _ _ 0 (n + 1) = (up12 S (cp13 p x) f (f + n + 1)).map _
    rw [up12, up12, if_neg (by omega), if_neg (by omega), layN_own, fnd_own, layN_drop]
    cases fnd (layN S (f + n)) (cp13 p x) with
    | none => exact ih
    | some e =>
      have e1 : (at1 x e).2.1 = e.2.1 := rfl
      have e2 : f + n - f = n := by omega
      simp only [Option.map_some, e1]
      by_cases k1 : e.2.1 = 1
      · simp only [if_pos k1, Option.map_some, e2]
      · by_cases k4 : e.2.1 = 4
        · simp only [if_neg k1, if_pos k4, Option.map_some, e2]
          rfl
        · by_cases k2 : e.2.1 = 2
          · simp only [if_neg k1, if_neg k4, if_pos k2]
            rw [ih]
            cases up12 S (cp13 p x) f (f + n) with
            | none =>
              simp only [Option.map_none, Option.map_some, e2]
              rfl
            | some z =>
              obtain ⟨y, j⟩ := z
              simp only [Option.map_some]
              have e3 : (at1 x y).2.1 = y.2.1 := rfl
              rw [e3]
              by_cases hy : y.2.1 = 2
              · simp only [if_pos hy, Option.map_some]
                rfl
              · simp only [if_neg hy, Option.map_some, e2]
                rfl
          · simp only [if_neg k1, if_neg k4, if_neg k2, Option.map_none]
/-- At of its own stack: as At of the stack at the name's path. -/
theorem at_own {S : List (List Ent)} {p x : List UInt8} {f : Nat} (h0 : (atS S p).1 = 0) (hk : (atS S p).2.1.2.1 = 2) (hf : f = (atS S p).2.2) (hfl : f ≤ S.length) (hx : nm x = true) (hp : isP p) (hd : (pcs p).length < 6) :
    (atS (ownS (S.drop f) p x) (47 :: x)).1 = (atS S (cp13 p x)).1 ∧ ((atS S (cp13 p x)).1 = 0 → (atS (ownS (S.drop f) p x) (47 :: x)).2.1 = at1 x (atS S (cp13 p x)).2.1 ∧ (atS (ownS (S.drop f) p x) (47 :: x)).2.2 + f = (atS S (cp13 p x)).2.2 ∧ (atS S (cp13 p x)).2.1 = (bs (cp13 p x), (atS S (cp13 p x)).2.1.2)) := by
  obtain ⟨q1, q2, q3, _⟩ := rn_isP hx
  obtain ⟨c1, c2, c3, _⟩ := cp_parts hp hx hd
  have hu := up_own S p x f (S.length - f)
  rw [show f + (S.length - f) = S.length by omega] at hu
  have hl : (ownS (S.drop f) p x).length = S.length - f := by rw [ownS_len, List.length_drop]
  have hr : (atS (ownS (S.drop f) p x) [47]).2.1.2.1 = 2 := by rw [atS_root]; rfl
  rw [atS_step _ q1 q2, q3, hl, if_neg (by rw [atS_root]; simp), if_neg (not_not_intro hr), show (atS (ownS (S.drop f) p x) [47]).2.2 = 0 by rw [atS_root], hu]
  rw [atS_step S c1 c2, c3, if_neg (not_not_intro h0), if_neg (not_not_intro hk), ← hf]
  cases hz : up12 S (cp13 p x) f S.length with
  | none => exact ⟨rfl, fun h => by cases h⟩
  | some z =>
    obtain ⟨e, j⟩ := z
    obtain ⟨u1, u2, u3, _⟩ := up_from _ hz
    refine ⟨rfl, fun _ => ⟨rfl, ?_, ?_⟩⟩
    · show j - f + f = j
      omega
    · have hpl : pl e = cp13 p x := by
        rcases u3 with ⟨_, u3⟩ | ⟨rfl, _⟩
        · have := List.find?_some u3
          simpa using this
        · exact pl_dP _
      show e = (bs (cp13 p x), e.2)
      rw [show bs (cp13 p x) = e.1 from (path_eq hpl).symm]
end Go.Proofs.YtlncdmdffpaojaaGreatDoor
