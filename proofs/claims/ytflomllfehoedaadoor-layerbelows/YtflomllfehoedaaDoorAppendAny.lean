/-
  append(s, t...) where s is a slice that the call made itself and t any slice that lies in memory, nil among them: what is made holds both. No condition but that it fits.
-/
import Derived.WalkKit
import Derived.Laws.AppendOwn
import Derived.Deep.AppendSrc
import Derived.Test.YtflomllfehoedaaDoorRowOf
import Derived.Test.YtflomllfehoedaaDoorRowN
namespace Go.Proofs.YtflomllfehoedaaDoor
open Go.RowKit

theorem grownBy_self (w : World) (row : Option Nat) : w.grownBy w row := ⟨rfl, rfl, rfl, Nat.le_refl _, fun _ _ _ => rfl⟩

theorem run_append_any {P : Program} (w : World) (base : Nat) (t ty e : TypeId) (i : TypeInfo) (z : Value) (size bytes : Nat) (ht : P.underlying t = some (.slice e)) (hi : P.info? e = some i) (hz : i.zero = some z)
    (hsize : i.size = size) (hby : i.bytes = bytes) (hzs : z.cells.size = size) (hsz : 0 < size) (v : Value) (n : Nat) (xs : List Value) (hown : w.ownsRow base e size v n xs)
    (aS : Option Addr) (m c : Nat) (news : List Value) (hl : news.length = m * size) (hsrc : ∀ ad, aS = some ad → ∀ j u, news[j]? = some u → w.cell? (ad.add j) = some u) (hnone : aS = none → m = 0) (h1 : ∀ u ∈ news, u.oneCell' = true)
    (h63 : n + m ≤ maxLen) (hbytes : (n + m) * bytes ≤ 140737488355328) (hbase : base ≤ w.heap.size) :
    ∃ v' w', (Builtin.append_ #[t, t] ty #[v, .slice aS m c]).run P w = .ok v' w' ∧ w'.ownsRow base e size v' (n + m) (xs ++ news) ∧ w.grownBy w' v.ownBlock := by
  cases aS with
  | some ad =>
    obtain ⟨v', w', h2, h3, h4, _⟩ := run_append_own (P := P) w base t ty e i z size bytes ht hi hz hsize hby hzs hsz v n xs hown ad m c news hl (hsrc ad rfl) h1 h63 hbytes hbase
    exact ⟨v', w', h2, h3, h4⟩
  | none =>
    obtain rfl := hnone rfl
    obtain rfl : news = [] := List.eq_nil_of_length_eq_zero (by simpa using hl)
    refine ⟨v, w, ?_, by simpa using hown, grownBy_self _ _⟩
    subst hsize
    rcases hown.2 with ⟨rfl, rfl⟩ | ⟨g, cap, cur, rfl, _, _, hnc, _⟩
    · simp [Builtin.append_, run_underlying ht, sizeOf, typeInfo, hi, Builtin.lenOf, Builtin.firstCells]
    · have hr := run_append_room_src (P := P) w t t ty e i ht hi g 0 n cap (.slice none 0 c) 0 [] (Src.ofNil w ht c) (by omega) (fun j hj => by simp at hj) (fun j hj => by simp at hj)
      simpa [World.setCells] using hr

theorem wl_append_any {P : Program} {w : World} {ops : Array Oper} {rest : List Oper} {o : Oper} {a : Act} {Q : Exit → Act → World → Prop} (hgd : o.guard = none) (s x : Operand) (t : TypeId)
    (ho : o.op = .call { callee := .builtin .append, args := #[s, x], argTypes := #[t, t] })
    (base : Nat) (e : TypeId) (i : TypeInfo) (z : Value) (size bytes : Nat) (ht : P.underlying t = some (.slice e)) (hi : P.info? e = some i) (hz : i.zero = some z)
    (hsize : i.size = size) (hby : i.bytes = bytes) (hzs : z.cells.size = size) (hsz : 0 < size) (v : Value) (n : Nat) (xs : List Value) (hs : a.eval s = v) (hown : w.ownsRow base e size v n xs)
    (aS : Option Addr) (m c : Nat) (news : List Value) (hx : a.eval x = .slice aS m c) (hl : news.length = m * size) (hsrc : ∀ ad, aS = some ad → ∀ j u, news[j]? = some u → w.cell? (ad.add j) = some u) (hnone : aS = none → m = 0) (h1 : ∀ u ∈ news, u.oneCell' = true)
    (h63 : n + m ≤ maxLen) (hbytes : (n + m) * bytes ≤ 140737488355328) (hbase : base ≤ w.heap.size)
    (h : ∀ v' w', w'.ownsRow base e size v' (n + m) (xs ++ news) → w.grownBy w' v.ownBlock → wpList P ops Q rest (a.put o.dst v') w') : wpList P ops Q (o :: rest) a w := by
  refine wpList_plain hgd fun K hK => ?_
  obtain ⟨v', w', hr, h2, h3⟩ := run_append_any (P := P) w base t o.type e i z size bytes ht hi hz hsize hby hzs hsz v n xs hown aS m c news hl hsrc hnone h1 h63 hbytes hbase
  unfold Oper.wp execOp
  simp only [ho, resolve, invoke, builtin, Sem.run_bind, Sem.run_pure, Result.andThen_ok, List.map_toArray, List.map_cons, List.map_nil, hs, hx, hr]
  exact hK _ _ (h v' w' h2 h3)

theorem step_append_any {P : Program} {w : World} {ops : Array Oper} {o : Oper} {a : Act} {K : Act → World → Prop} {Q : Exit → Act → World → Prop} {E : Prop} (hgd : o.guard = none) (s x : Operand) (t : TypeId)
    (ho : o.op = .call { callee := .builtin .append, args := #[s, x], argTypes := #[t, t] })
    (base : Nat) (e : TypeId) (i : TypeInfo) (z : Value) (size bytes : Nat) (ht : P.underlying t = some (.slice e)) (hi : P.info? e = some i) (hz : i.zero = some z)
    (hsize : i.size = size) (hby : i.bytes = bytes) (hzs : z.cells.size = size) (hsz : 0 < size) (v : Value) (n : Nat) (xs : List Value) (hs : a.eval s = v) (hown : w.ownsRow base e size v n xs)
    (aS : Option Addr) (m c : Nat) (news : List Value) (hx : a.eval x = .slice aS m c) (hl : news.length = m * size) (hsrc : ∀ ad, aS = some ad → ∀ j u, news[j]? = some u → w.cell? (ad.add j) = some u) (hnone : aS = none → m = 0) (h1 : ∀ u ∈ news, u.oneCell' = true)
    (h63 : n + m ≤ maxLen) (hbytes : (n + m) * bytes ≤ 140737488355328) (hbase : base ≤ w.heap.size)
    (h : ∀ v' w', w'.ownsRow base e size v' (n + m) (xs ++ news) → w.grownBy w' v.ownBlock → K (a.put o.dst v') w') :
    if Region.wanted o (yielded ops a.tmps) = true then Oper.wp P o a w K Q else E := by
  have hw : Region.wanted o (yielded ops a.tmps) = true := by simp [Region.wanted, hgd]
  rw [if_pos hw]
  obtain ⟨v', w', hr, h2, h3⟩ := run_append_any (P := P) w base t o.type e i z size bytes ht hi hz hsize hby hzs hsz v n xs hown aS m c news hl hsrc hnone h1 h63 hbytes hbase
  unfold Oper.wp execOp
  simp only [ho, resolve, invoke, builtin, Sem.run_bind, Sem.run_pure, Result.andThen_ok, List.map_toArray, List.map_cons, List.map_nil, hs, hx, hr]
  exact h v' w' h2 h3

theorem RowOf.src {α : Type} {f : α → Value} {w : World} {a : Option Addr} {cap : Nat} {l : List α} (h : RowOf f w a cap l) : (∀ ad, a = some ad → ∀ j u, (l.map f)[j]? = some u → w.cell? (ad.add j) = some u) ∧ (a = none → l.length = 0) := by
  rcases h.2 with rfl | ⟨b, off, rfl, _, hc⟩
  · exact ⟨fun _ _ j u hu => by simp at hu, fun _ => rfl⟩
  · refine ⟨fun ad e j u hu => ?_, fun e => by cases e⟩
    cases e
    rw [List.getElem?_map] at hu
    cases hx : l[j]? with
    | none => rw [hx] at hu; cases hu
    | some x =>
      rw [hx] at hu
      obtain rfl : f x = u := by simpa using hu
      rw [Addr.add_lit]
      exact hc j x hx
theorem rowOf_owns {α : Type} {f : α → Value} {w : World} {B : Nat} {e : TypeId} {v : Value} {l : List α} (h : w.ownsRow B e 1 v l.length (l.map f)) : ∃ a cap, v = .slice a l.length cap ∧ RowOf f w a cap l ∧ ∀ ad, a = some ad → B ≤ ad.block := by
  obtain ⟨_, ⟨rfl, h0⟩ | ⟨g, cap, cur, rfl, hg, hbk, hc, _, _, ht⟩⟩ := h
  · exact ⟨none, 0, by rw [h0], ⟨by omega, .inl (List.length_eq_zero_iff.1 h0)⟩, fun ad e => by cases e⟩
  · refine ⟨_, cap, rfl, ⟨hc, .inr ⟨g, 0, rfl, (Array.getElem?_eq_some_iff.1 hbk).1, fun j x hx => ?_⟩⟩, fun ad e => by cases e; exact hg⟩
    have hj : j < l.length := (List.getElem?_eq_some_iff.1 hx).1
    have h4 := congrArg (·[j]?) ht
    simp only [List.getElem?_take, Nat.mul_one, if_pos hj, List.getElem?_map, hx, Array.getElem?_toList] at h4
    simp [World.cell?, hbk, h4]
theorem RowOf.set {α : Type} {f : α → Value} {w : World} {a : Option Addr} {cap : Nat} {l : List α} (h : RowOf f w a cap l) {p : Addr} (hne : ∀ ad, a = some ad → ad.block ≠ p.block) (v : Value) : RowOf f (w.setCell p v) a cap l := by
  refine ⟨h.1, h.2.imp_right ?_⟩
  rintro ⟨b, off, rfl, hlt, hc⟩
  refine ⟨b, off, rfl, by simpa [World.setCell] using hlt, fun j x hx => ?_⟩
  rw [World.cell?_setCell_other _ _ _ _ (fun e => hne _ rfl (by rw [e]))]
  exact hc j x hx
theorem RowN.set {α : Type} {C : Nat} {f : α → List Value} {w : World} {a : Option Addr} {cap : Nat} {l : List α} (h : RowN C f w a cap l) {p : Addr} (hne : ∀ ad, a = some ad → ad.block ≠ p.block) (v : Value) : RowN C f (w.setCell p v) a cap l := by
  refine ⟨h.1, h.2.imp_right ?_⟩
  rintro ⟨b, off, rfl, hlt, hc⟩
  refine ⟨b, off, rfl, by simpa [World.setCell] using hlt, fun j x hx i u hu => ?_⟩
  rw [World.cell?_setCell_other _ _ _ _ (fun e => hne _ rfl (by rw [e]))]
  exact hc j x hx i u hu
theorem RowOf.sets {α : Type} {f : α → Value} {a : Option Addr} {cap : Nat} {l : List α} {b : Nat} (hne : ∀ ad, a = some ad → ad.block ≠ b) : ∀ {w : World}, RowOf f w a cap l → ∀ (o : Nat) (vs : List Value), RowOf f (w.setCells b o vs) a cap l := by
  intro w h o vs
  induction vs generalizing w o with
  | nil => exact h
  | cons v r ih => rw [World.setCells]; exact ih (h.set (p := ⟨b, o, none⟩) hne v) (o + 1)
theorem RowN.sets {α : Type} {C : Nat} {f : α → List Value} {a : Option Addr} {cap : Nat} {l : List α} {b : Nat} (hne : ∀ ad, a = some ad → ad.block ≠ b) : ∀ {w : World}, RowN C f w a cap l → ∀ (o : Nat) (vs : List Value), RowN C f (w.setCells b o vs) a cap l := by
  intro w h o vs
  induction vs generalizing w o with
  | nil => exact h
  | cons v r ih => rw [World.setCells]; exact ih (h.set (p := ⟨b, o, none⟩) hne v) (o + 1)
theorem flat_at {α : Type} {C : Nat} {f : α → List Value} : ∀ (l : List α), (∀ x ∈ l, (f x).length = C) → ∀ (j i : Nat) x v, l[j]? = some x → (f x)[i]? = some v → (l.flatMap f)[j * C + i]? = some v
  | [], _, j, i, x, v, hx, _ => by simp at hx
  | y :: r, hC, 0, i, x, v, hx, hv => by
    obtain rfl : y = x := by simpa using hx
    rw [List.flatMap_cons, Nat.zero_mul, Nat.zero_add, List.getElem?_append_left (List.getElem?_eq_some_iff.1 hv).1]
    exact hv
  | y :: r, hC, j + 1, i, x, v, hx, hv => by
    have h1 := hC y List.mem_cons_self
    have := flat_at r (fun x hx => hC x (List.mem_cons_of_mem _ hx)) j i x v (by simpa using hx) hv
    rw [List.flatMap_cons, List.getElem?_append_right (by rw [h1, Nat.succ_mul]; omega), h1, show (j + 1) * C + i - C = j * C + i by rw [Nat.succ_mul]; omega]
    exact this
theorem flat_len {α : Type} {C : Nat} {f : α → List Value} : ∀ (l : List α), (∀ x ∈ l, (f x).length = C) → (l.flatMap f).length = l.length * C
  | [], _ => by simp
  | y :: r, hC => by
    rw [List.flatMap_cons, List.length_append, hC y List.mem_cons_self, flat_len r fun x hx => hC x (List.mem_cons_of_mem _ hx), List.length_cons, Nat.succ_mul, Nat.add_comm]
theorem flat_back {α : Type} {C : Nat} {f : α → List Value} (hC0 : 0 < C) : ∀ (l : List α), (∀ x ∈ l, (f x).length = C) → ∀ (k : Nat) v, (l.flatMap f)[k]? = some v → ∃ x, l[k / C]? = some x ∧ (f x)[k % C]? = some v
  | [], _, k, v, hv => by simp at hv
  | y :: r, hC, k, v, hv => by
    have h1 := hC y List.mem_cons_self
    rw [List.flatMap_cons] at hv
    by_cases hk : k < C
    · rw [List.getElem?_append_left (by omega)] at hv
      exact ⟨y, by rw [Nat.div_eq_of_lt hk]; rfl, by rw [Nat.mod_eq_of_lt hk]; exact hv⟩
    · rw [List.getElem?_append_right (by omega), h1] at hv
      obtain ⟨x, hx, hm⟩ := flat_back hC0 r (fun x hx => hC x (List.mem_cons_of_mem _ hx)) (k - C) v hv
      have e1 : k / C = (k - C) / C + 1 := by rw [Nat.div_eq_sub_div hC0 (by omega)]
      have e2 : k % C = (k - C) % C := Nat.mod_eq_sub_mod (by omega)
      exact ⟨x, by rw [e1]; simpa using hx, by rw [e2]; exact hm⟩
theorem RowN.src {α : Type} {C : Nat} {f : α → List Value} {w : World} {a : Option Addr} {cap : Nat} {l : List α} (h : RowN C f w a cap l) (hC0 : 0 < C) (hC : ∀ x ∈ l, (f x).length = C) : (∀ ad, a = some ad → ∀ j u, (l.flatMap f)[j]? = some u → w.cell? (ad.add j) = some u) ∧ (a = none → l.length = 0) := by
  rcases h.2 with rfl | ⟨b, off, rfl, _, hc⟩
  · exact ⟨fun _ _ j u hu => by simp at hu, fun _ => rfl⟩
  · refine ⟨fun ad e j u hu => ?_, fun e => by cases e⟩
    cases e
    obtain ⟨x, hx, hv⟩ := flat_back hC0 l hC j u hu
    have := hc _ x hx _ u hv
    rw [Addr.add_lit]
    rwa [Nat.add_assoc, Nat.mul_comm, Nat.div_add_mod] at this
theorem rowN_owns {α : Type} {C : Nat} {f : α → List Value} {w : World} {B : Nat} {e : TypeId} {v : Value} {l : List α} (hC : ∀ x ∈ l, (f x).length = C) (h : w.ownsRow B e C v l.length (l.flatMap f)) : ∃ a cap, v = .slice a l.length cap ∧ RowN C f w a cap l ∧ ∀ ad, a = some ad → B ≤ ad.block := by
  obtain ⟨_, ⟨rfl, h0⟩ | ⟨g, cap, cur, rfl, hg, hbk, hc, _, _, ht⟩⟩ := h
  · exact ⟨none, 0, by rw [h0], ⟨by omega, .inl (List.length_eq_zero_iff.1 h0)⟩, fun ad e => by cases e⟩
  · refine ⟨_, cap, rfl, ⟨hc, .inr ⟨g, 0, rfl, (Array.getElem?_eq_some_iff.1 hbk).1, fun j x hx i u hu => ?_⟩⟩, fun ad e => by cases e; exact hg⟩
    have hj : j < l.length := (List.getElem?_eq_some_iff.1 hx).1
    have h5 := flat_at l hC j i x u hx hu
    have hlt : j * C + i < l.length * C := by
      have := (List.getElem?_eq_some_iff.1 h5).1
      rwa [flat_len l hC] at this
    have h4 := congrArg (·[j * C + i]?) ht
    simp only [List.getElem?_take, if_pos hlt, h5, Array.getElem?_toList] at h4
    simp [World.cell?, hbk, h4]
/-- A walk that is told to stand still here. -/
def Stopped (p : Prop) : Prop := p
theorem Stopped.go {p : Prop} (h : Stopped p) : p := h
theorem own_blk {w : World} {B : Nat} {e : TypeId} {C : Nat} {v : Value} {n : Nat} {xs : List Value} (h : w.ownsRow B e C v n xs) : ∀ k, v.ownBlock = some k → B ≤ k := fun k hk => by
  obtain ⟨_, ⟨rfl, _⟩ | ⟨g, cap, cur, rfl, hg, _⟩⟩ := h
  · cases hk
  · simp [Value.ownBlock] at hk
    omega
end Go.Proofs.YtflomllfehoedaaDoor
