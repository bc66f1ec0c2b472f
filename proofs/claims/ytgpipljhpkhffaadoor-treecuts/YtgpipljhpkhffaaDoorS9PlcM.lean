/-
  Where in a rising list an entry at a path stands or would stand: what stands ahead of it, the entry there, the list with one put there and without it. No condition.
-/
import Derived.Test.YtgpipljhpkhffaaDoorPb
import Derived.Test.YtgpipljhpkhffaaDoorPc
namespace Go.Proofs.YtgpipljhpkhffaaDoor
open Go.RowKit

/-- How many entries stand ahead of a path. -/
def plc (l : List Ent) (p : List UInt8) : Nat := (l.filter fun a => lt8 (pl a) p).length
theorem plc_split {l : List Ent} (h : Asc l) (p : List UInt8) : l.take (plc l p) = l.filter (fun a => lt8 (pl a) p) ∧ l.drop (plc l p) = l.filter (fun a => !lt8 (pl a) p) := by
  induction l with
  | nil => exact ⟨rfl, rfl⟩
  | cons x r ih =>
    obtain ⟨h1, h2⟩ := List.pairwise_cons.1 h
    obtain ⟨i1, i2⟩ := ih h2
    unfold plc at i1 i2 ⊢
    cases hx : lt8 (pl x) p with
    | true =>
      rw [List.filter_cons_of_pos (by simpa using hx), List.filter_cons_of_neg (by simp [hx]), List.length_cons, List.take_succ_cons, List.drop_succ_cons, i1]
      exact ⟨rfl, i2⟩
    | false =>
      have h3 : ∀ y ∈ x :: r, lt8 (pl y) p = false := fun y hy => by
        rcases List.mem_cons.1 hy with rfl | hy
        · exact hx
        · cases h4 : lt8 (pl y) p with
          | false => rfl
          | true => have := lt8_trans (h1 y hy) h4; rw [hx] at this; cases this
      rw [List.filter_eq_nil_iff.2 fun y hy => by rw [h3 y hy]; simp, List.filter_eq_self.2 fun y hy => by rw [h3 y hy]; rfl]
      exact ⟨rfl, rfl⟩
theorem plc_le (l : List Ent) (p : List UInt8) : plc l p ≤ l.length := List.length_filter_le _ _
theorem plc_at {l : List Ent} (h : Asc l) (p : List UInt8) {i : Nat} (hi : i < l.length) : lt8 (pl l[i]) p = decide (i < plc l p) := by
  obtain ⟨h1, h2⟩ := plc_split h p
  by_cases hk : i < plc l p
  · rw [decide_eq_true hk]
    have : l[i] ∈ l.take (plc l p) := by
      rw [List.mem_take_iff_getElem]
      exact ⟨i, by omega, rfl⟩
    rw [h1] at this
    simpa using (List.mem_filter.1 this).2
  · rw [decide_eq_false hk]
    have : l[i] ∈ l.drop (plc l p) := by
      rw [List.mem_drop_iff_getElem]
      refine ⟨i - plc l p, by omega, ?_⟩
      congr 1
      omega
    rw [h2] at this
    simpa using (List.mem_filter.1 this).2
/-- What stands there. -/
theorem plc_fnd {l : List Ent} (h : Asc l) (p : List UInt8) : fnd l p = (l[plc l p]?).bind fun e => if pl e = p then some e else none := by
  obtain ⟨h1, h2⟩ := plc_split h p
  have hA : ∀ e ∈ l.take (plc l p), pl e ≠ p := fun e he => by
    rw [h1] at he
    exact lt8_ne (by simpa using (List.mem_filter.1 he).2)
  have hf : fnd l p = fnd (l.drop (plc l p)) p := by
    conv => lhs; rw [← List.take_append_drop (plc l p) l]
    unfold fnd
    rw [List.find?_append, List.find?_eq_none.2 fun e he => by simpa using hA e he]
    rfl
  have hd : Asc (l.drop (plc l p)) := List.Pairwise.sublist (List.drop_sublist _ _) h
  have hg : l[plc l p]? = (l.drop (plc l p))[0]? := by simp
  rw [hf, hg]
  have hB : ∀ e ∈ l.drop (plc l p), lt8 (pl e) p = false := fun e he => by
    rw [h2] at he
    simpa using (List.mem_filter.1 he).2
  cases hD : l.drop (plc l p) with
  | nil => rfl
  | cons x r =>
    rw [hD] at hd hB
    show fnd (x :: r) p = if pl x = p then some x else none
    split
    · rename_i hp
      unfold fnd
      rw [List.find?_cons_of_pos (by simpa using hp)]
    · rename_i hp
      rw [fnd_none]
      intro y hy
      rcases List.mem_cons.1 hy with rfl | hy
      · exact hp
      · intro e0
        have h3 := (List.pairwise_cons.1 hd).1 y hy
        rw [e0, hB x List.mem_cons_self] at h3
        cases h3
theorem plc_some {l : List Ent} (h : Asc l) {p : List UInt8} {e : Ent} (he : fnd l p = some e) : ∃ hk : plc l p < l.length, l[plc l p] = e ∧ pl e = p := by
  rw [plc_fnd h p] at he
  cases hg : l[plc l p]? with
  | none => rw [hg] at he; cases he
  | some x =>
    rw [hg, Option.bind_some] at he
    obtain ⟨hk, hx⟩ := List.getElem?_eq_some_iff.1 hg
    split at he
    · rename_i hp
      cases he
      exact ⟨hk, hx, hp⟩
    · cases he
theorem gt_drop {l : List Ent} (h : Asc l) (p : List UInt8) : l.filter (fun a => lt8 p (pl a)) = (l.drop (plc l p)).filter (fun a => lt8 p (pl a)) := by
  obtain ⟨h1, h2⟩ := plc_split h p
  conv => lhs; rw [← List.take_append_drop (plc l p) l]
  rw [List.filter_append, List.filter_eq_nil_iff.2, List.nil_append]
  intro e he
  rw [h1] at he
  have : lt8 (pl e) p = true := by simpa using (List.mem_filter.1 he).2
  rw [lt8_asymm this]
  simp
theorem wth_new {l : List Ent} (h : Asc l) {e : Ent} (hn : fnd l (pl e) = none) : wth l e = l.take (plc l (pl e)) ++ ([e] ++ l.drop (plc l (pl e))) := by
  obtain ⟨h1, h2⟩ := plc_split h (pl e)
  have h5 : (l.drop (plc l (pl e))).filter (fun a => lt8 (pl e) (pl a)) = l.drop (plc l (pl e)) := List.filter_eq_self.2 fun a ha => by
    have h3 : a ∈ l := List.mem_of_mem_drop ha
    rw [h2] at ha
    have h4 : lt8 (pl a) (pl e) = false := by simpa using (List.mem_filter.1 ha).2
    rcases lt8_tri (pl a) (pl e) with h | h | h
    · exact absurd h (fnd_none.1 hn a h3)
    · rw [h4] at h; cases h
    · exact h
  unfold wth
  rw [gt_drop h, h1, h5]
  rfl
theorem drop_plc {l : List Ent} (h : Asc l) {p : List UInt8} {x : Ent} (hn : fnd l p = some x) : l.drop (plc l p) = x :: l.drop (plc l p + 1) ∧ pl x = p ∧ ∀ y ∈ l.drop (plc l p + 1), lt8 p (pl y) = true := by
  obtain ⟨hk, hx, hp⟩ := plc_some h hn
  have hd : Asc (l.drop (plc l p)) := List.Pairwise.sublist (List.drop_sublist _ _) h
  have he := List.drop_eq_getElem_cons hk
  rw [hx] at he
  refine ⟨he, hp, fun y hy => ?_⟩
  unfold Asc at hd
  rw [he] at hd
  rw [← hp]
  exact (List.pairwise_cons.1 hd).1 y hy
theorem wth_old {l : List Ent} (h : Asc l) {e x : Ent} (hn : fnd l (pl e) = some x) : wth l e = l.take (plc l (pl e)) ++ ([e] ++ l.drop (plc l (pl e) + 1)) := by
  obtain ⟨h1, _⟩ := plc_split h (pl e)
  obtain ⟨h3, h4, h5⟩ := drop_plc h hn
  unfold wth
  rw [gt_drop h, h1, h3, List.filter_cons_of_neg (by rw [h4, lt8_irr]; simp), List.filter_eq_self.2 h5]
  rfl
theorem wout_old {l : List Ent} (h : Asc l) {p : List UInt8} {x : Ent} (hn : fnd l p = some x) : wout l p = l.take (plc l p) ++ l.drop (plc l p + 1) := by
  obtain ⟨h1, _⟩ := plc_split h p
  obtain ⟨h3, h4, h5⟩ := drop_plc h hn
  unfold wout
  conv => lhs; rw [← List.take_append_drop (plc l p) l]
  rw [List.filter_append, h3, List.filter_cons_of_neg (by simp [h4]), List.filter_eq_self.2, List.filter_eq_self.2]
  · intro a ha
    have := lt8_ne (h5 a ha)
    simpa using fun e0 => this e0.symm
  · intro a ha
    rw [h1] at ha
    have : lt8 (pl a) p = true := by simpa using (List.mem_filter.1 ha).2
    simpa using lt8_ne this
theorem Ents.take {w : World} {a : Option Addr} {cap : Nat} {l : List Ent} (h : Ents w a cap l) (n : Nat) : Ents w a cap (l.take n) := by
  obtain ⟨h1, h2⟩ := h
  refine ⟨by rw [List.length_take]; omega, ?_⟩
  rcases h2 with rfl | ⟨b, off, rfl, hlt, hc⟩
  · exact .inl (by simp)
  · refine .inr ⟨b, off, rfl, hlt, fun j x hx => hc j x ?_⟩
    rw [List.getElem?_take] at hx
    split at hx
    · exact hx
    · cases hx
/-- A list without its first n entries. -/
theorem Ents.drop {w : World} {b off cap : Nat} {l : List Ent} (h : Ents w (some ⟨b, off, none⟩) cap l) (n : Nat) (hn : n ≤ l.length) : Ents w (some ⟨b, off + n * 3, none⟩) (cap - n) (l.drop n) := by
  obtain ⟨h1, h2⟩ := h
  refine ⟨by rw [List.length_drop]; omega, ?_⟩
  rcases h2 with rfl | ⟨b', off', e0, hlt, hc⟩
  · exact .inl (by simp)
  · cases e0
    refine .inr ⟨b, off + n * 3, rfl, hlt, fun j x hx => ?_⟩
    rw [List.getElem?_drop] at hx
    have := hc (n + j) x hx
    rwa [show off + (n + j) * 3 = off + n * 3 + j * 3 by omega] at this
end Go.Proofs.YtgpipljhpkhffaaDoor
