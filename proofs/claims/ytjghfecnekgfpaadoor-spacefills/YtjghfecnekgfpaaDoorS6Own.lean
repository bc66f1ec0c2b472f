/-
  A map of places that a call makes itself: appended to, a place of it set; a map's beginning, and a part of it, as maps. No condition.
-/
import Derived.Test.YtjghfecnekgfpaaDoorS6Awake
import Derived.Test.YtjghfecnekgfpaaDoorRowSet
import Derived.OwnWalk
namespace Go.Proofs.YtjghfecnekgfpaaDoor
open Go.RowKit

/-- A map that a call made itself, in blocks from B on. -/
def OwnM (w : World) (B : Nat) (v : Value) (l : List Bool) : Prop := w.ownsRow B 4 1 v l.length (l.map Value.bool)
theorem infoBl6 : (Tryd.prog.info? 4).map (fun i => (i.zero, i.size, i.bytes)) = some (some (.bool false), 1, 1) := by kernel_rfl
theorem OwnM.empty (w : World) (B : Nat) (hB : B ≤ w.heap.size) : OwnM (w.alloc (.cells #[] 4)) B (.slice (some ⟨w.heap.size, 0, none⟩) 0 0) [] := World.ownsRow_made (size := 1) w #[] 0 hB (by simp [maxLen]) rfl
theorem OwnM.mp {w : World} {B : Nat} {v : Value} {l : List Bool} (h : OwnM w B v l) : ∃ a cap, v = .slice a l.length cap ∧ Mp w a cap l ∧ ∀ ad, a = some ad → B ≤ ad.block := rowOf_owns h
theorem Mp.start {w : World} {a : Option Addr} {cap : Nat} {l : List Bool} (h : Mp w a cap l) (h0 : 0 < l.length) : ∃ b off, a = some ⟨b, off, none⟩ ∧ 0 < cap := by
  rcases h.2 with rfl | ⟨b, off, rfl, _⟩
  · simp at h0
  · exact ⟨b, off, rfl, Nat.lt_of_lt_of_le h0 h.1⟩
theorem Mp.part {w : World} {b off cap : Nat} {l : List Bool} (h : Mp w (some ⟨b, off, none⟩) cap l) (i n c : Nat) (hi : i + n ≤ l.length) (hc : n ≤ c) : Mp w (some ⟨b, off + i, none⟩) c ((l.drop i).take n) := by
  refine ⟨by rw [List.length_take]; omega, ?_⟩
  rcases h.2 with rfl | ⟨b', off', e, hlt, hx⟩
  · exact .inl (by simp)
  · cases e
    refine .inr ⟨b, off + i, rfl, hlt, fun j x hj => ?_⟩
    rw [List.getElem?_take] at hj
    split at hj
    · rw [List.getElem?_drop] at hj
      rw [Nat.add_assoc]
      exact hx (i + j) x hj
    · cases hj
/-- append(s, t...) where s is the call's own map, t any. -/
theorem wl_own6 {w : World} {ops : Array Oper} {rest : List Oper} {o : Oper} {a : Act} {Q : Exit → Act → World → Prop} (hgd : o.guard = none) (s x : Operand)
    (ho : o.op = .call { callee := .builtin .append, args := #[s, x], argTypes := #[22, 22] }) (B : Nat) (v : Value) (l : List Bool) (hs : a.eval s = v) (hown : OwnM w B v l) (aS : Option Addr) (m c : Nat) (l' : List Bool) (hx : a.eval x = .slice aS m c) (hm : Mp w aS c l') (hl : l'.length = m) (hf : l.length + m ≤ 100000) (hB : B ≤ w.heap.size)
    (h : ∀ v' w', OwnM w' B v' (l ++ l') → Below B w w' → wpList Tryd.prog ops Q rest (a.put o.dst v') w') : wpList Tryd.prog ops Q (o :: rest) a w := by
  obtain ⟨i, hi, h0, h1, h2⟩ := info_parts infoBl6
  have hsrc := hm.src
  refine wl_append_any hgd s x 22 ho B 4 i (.bool false) 1 1 Tryd.underlying22 hi h0 h1 h2 rfl (by decide) v l.length _ hs hown aS m c (l'.map Value.bool) hx (by simp [hl]) hsrc.1 (fun e => by rw [← hl]; exact hsrc.2 e) (fun u hu => by obtain ⟨b, _, rfl⟩ := List.mem_map.1 hu; rfl) (by unfold maxLen; omega) (by omega) hB ?_
  intro v' w' h3 h4
  refine h v' w' ?_ ((Below.refl B w).grown h4 hB (own_blk hown))
  unfold OwnM
  rw [List.length_append, hl, List.map_append]
  exact h3
theorem OwnM.at {w : World} {B g cap n : Nat} {l : List Bool} (h : OwnM w B (.slice (some ⟨g, 0, none⟩) n cap) l) {k : Nat} (hk : k < l.length) : ∃ x, w.cell? ⟨g, k, none⟩ = some (.bool x) ∧ w.frozen? ⟨g, k, none⟩ = false := by
  obtain ⟨hl, ⟨h2, _⟩ | ⟨g', cap', cur, h2, hg, hb, hcap, hm, hsz, ht⟩⟩ := h
  · cases h2
  · cases h2
    have h4 := congrArg (·[k]?) ht
    simp only [List.getElem?_take, Nat.mul_one, if_pos hk, List.getElem?_map, List.getElem?_eq_getElem hk, Array.getElem?_toList] at h4
    exact ⟨l[k], by simp [World.cell?, hb, h4], by simp [World.frozen?, hb]⟩
theorem OwnM.set {w : World} {B g cap n : Nat} {l : List Bool} (h : OwnM w B (.slice (some ⟨g, 0, none⟩) n cap) l) (k : Nat) (hk : k < l.length) (x : Bool) : OwnM (w.setCell ⟨g, k, none⟩ (.bool x)) B (.slice (some ⟨g, 0, none⟩) n cap) (l.set k x) := by
  have hn : n = l.length := by
    obtain ⟨hl, ⟨h2, _⟩ | ⟨g', cap', cur, h2, _⟩⟩ := h
    · cases h2
    · cases h2; rfl
  subst hn
  have h2 := owns_put (w := w) h k [.bool x] (by simp; omega)
  unfold OwnM
  rw [List.length_set, List.map_set]
  have e : (l.map Value.bool).set k (.bool x) = (l.map Value.bool).take k ++ [.bool x] ++ (l.map Value.bool).drop (k + [Value.bool x].length) := by
    rw [List.set_eq_take_append_cons_drop, if_pos (by simpa using hk)]
    simp
  rw [e]
  exact h2
theorem OwnM.blk {w : World} {B g cap n : Nat} {l : List Bool} (h : OwnM w B (.slice (some ⟨g, 0, none⟩) n cap) l) : B ≤ g := own_blk h g rfl
theorem OwnM.cons {w : World} {B : Nat} {v : Value} {l : List Bool} (h : OwnM w B v l) (h0 : 0 < l.length) : ∃ g cap, v = .slice (some ⟨g, 0, none⟩) l.length cap := by
  obtain ⟨_, ⟨rfl, h2⟩ | ⟨g, cap, cur, rfl, _⟩⟩ := h
  · omega
  · exact ⟨g, cap, rfl⟩
end Go.Proofs.YtjghfecnekgfpaaDoor
