/-
  The disk of layer 5, told by lists: the writes that aren't firm, in their order; what is kept in mind of them by sector; what is read; what a crash keeps. No condition.
-/
namespace Go.Proofs.YtpimclhdimcioaaDoor

/-- A page's bytes; a write: where, what. -/
abbrev PgL := List UInt8
abbrev WrL := Int × PgL
/-- The zero page. -/
def zpl : PgL := List.replicate 64 0

/-- One write more: the bit's number counts on; at its sector those of the same bit go. -/
def sftStep (s : Nat × (Int → List WrL)) (x : WrL) : Nat × (Int → List WrL) :=
  (s.1 + 1, fun j => if j = x.1 then (s.2 j).filter (fun y => !(y.1 == ((s.1 % 64 : Nat) : Int))) ++ [(((s.1 % 64 : Nat) : Int), x.2)] else s.2 j)
def sft (H : List WrL) : Nat × (Int → List WrL) := H.foldl sftStep (0, fun _ => [])
/-- What is kept in mind at a sector. -/
def sftOf (H : List WrL) (i : Int) : List WrL := (sft H).2 i
theorem sft_snoc (H : List WrL) (x : WrL) : sft (H ++ [x]) = sftStep (sft H) x := by simp [sft]
theorem snoc_ind {α : Type} {p : List α → Prop} (h0 : p []) (h1 : ∀ l x, p l → p (l ++ [x])) (l : List α) : p l := by
  have : ∀ r : List α, p r.reverse := fun r => by
    induction r with
    | nil => exact h0
    | cons x r ih => rw [List.reverse_cons]; exact h1 _ _ ih
  have := this l.reverse
  rwa [List.reverse_reverse] at this
theorem sft_len (H : List WrL) : (sft H).1 = H.length := by
  induction H using snoc_ind with
  | h0 => rfl
  | h1 l x ih => rw [sft_snoc]; simp [sftStep, ih]
theorem sftOf_nil (i : Int) : sftOf [] i = [] := rfl
theorem sftOf_snoc (H : List WrL) (x : WrL) (j : Int) : sftOf (H ++ [x]) j = if j = x.1 then (sftOf H j).filter (fun y => !(y.1 == ((H.length % 64 : Nat) : Int))) ++ [(((H.length % 64 : Nat) : Int), x.2)] else sftOf H j := by
  unfold sftOf
  rw [sft_snoc]
  simp only [sftStep, sft_len]
theorem sftOf_mem (H : List WrL) (i : Int) : ∀ y ∈ sftOf H i, (0 ≤ y.1 ∧ y.1 < 64) ∧ (i, y.2) ∈ H := by
  induction H using snoc_ind with
  | h0 => intro y hy; rw [sftOf_nil] at hy; cases hy
  | h1 l x ih =>
    intro y hy
    rw [sftOf_snoc] at hy
    by_cases e : i = x.1
    · rw [if_pos e] at hy
      rcases List.mem_append.1 hy with hy | hy
      · have := ih y (List.mem_filter.1 hy).1
        exact ⟨this.1, List.mem_append_left _ this.2⟩
      · rw [List.mem_singleton.1 hy]
        refine ⟨by constructor <;> simp <;> omega, List.mem_append_right _ ?_⟩
        rw [e]
        exact List.mem_singleton.2 rfl
    · rw [if_neg e] at hy
      have := ih y hy
      exact ⟨this.1, List.mem_append_left _ this.2⟩
theorem sftOf_le (H : List WrL) (i : Int) : (sftOf H i).length ≤ H.length := by
  induction H using snoc_ind with
  | h0 => simp [sftOf_nil]
  | h1 l x ih =>
    rw [sftOf_snoc]
    split
    · have := List.length_filter_le (fun y : WrL => !(y.1 == ((l.length % 64 : Nat) : Int))) (sftOf l i)
      rw [List.length_append, List.length_append, List.length_singleton, List.length_singleton]
      omega
    · simp
      omega
/-- The last write at i, over what stood there. -/
def lst (H : List WrL) (i : Int) (z : PgL) : PgL := H.foldl (fun p x => if x.1 = i then x.2 else p) z
theorem lst_snoc (H : List WrL) (x : WrL) (i : Int) (z : PgL) : lst (H ++ [x]) i z = if x.1 = i then x.2 else lst H i z := by simp [lst]
theorem lst_append (H K : List WrL) (i : Int) (z : PgL) : lst (H ++ K) i z = lst K i (lst H i z) := by simp [lst]
theorem lst_sft (H : List WrL) (i : Int) (z : PgL) : (sftOf H i = [] ∧ lst H i z = z) ∨ ∃ h : sftOf H i ≠ [], ((sftOf H i).getLast h).2 = lst H i z := by
  induction H using snoc_ind with
  | h0 => exact .inl ⟨rfl, rfl⟩
  | h1 l x ih =>
    rw [lst_snoc]
    by_cases e : i = x.1
    · refine .inr ⟨by rw [sftOf_snoc, if_pos e]; simp, ?_⟩
      rw [if_pos e.symm]
      simp only [sftOf_snoc, if_pos e]
      simp
    · rw [if_neg (Ne.symm e)]
      simp only [sftOf_snoc, if_neg e]
      exact ih
theorem lst_len {H : List WrL} {i : Int} {z : PgL} (hz : z.length = 64) (h : ∀ x ∈ H, x.2.length = 64) : (lst H i z).length = 64 := by
  unfold lst
  induction H generalizing z with
  | nil => exact hz
  | cons x r ih =>
    refine ih ?_ fun y hy => h y (List.mem_cons_of_mem _ hy)
    dsimp only
    split
    · exact h x List.mem_cons_self
    · exact hz
/-- Is the bit of that number 1? -/
def bitOn (m : Int) (k : Int) : Bool := m / 2 ^ k.toNat % 2 == 1
/-- What a crash leaves at a sector, by what is kept in mind. -/
def crs (m : Int) (l : List WrL) (z : PgL) : PgL := l.foldl (fun p x => if bitOn m x.1 then x.2 else p) z
theorem crs_snoc (m : Int) (l : List WrL) (x : WrL) (z : PgL) : crs m (l ++ [x]) z = if bitOn m x.1 then x.2 else crs m l z := by simp [crs]
/-- The writes that a crash keeps. -/
def keptF (m : Int) (s : Nat × List WrL) (x : WrL) : Nat × List WrL := (s.1 + 1, if bitOn m ((s.1 % 64 : Nat) : Int) then s.2 ++ [x] else s.2)
def keptL (m : Int) (H : List WrL) : Nat × List WrL := H.foldl (keptF m) (0, [])
def kept (m : Int) (H : List WrL) : List WrL := (keptL m H).2
theorem keptL_snoc (m : Int) (H : List WrL) (x : WrL) : keptL m (H ++ [x]) = keptF m (keptL m H) x := by simp [keptL]
theorem keptL_len (m : Int) (H : List WrL) : (keptL m H).1 = H.length := by
  induction H using snoc_ind with
  | h0 => rfl
  | h1 l x ih => rw [keptL_snoc]; simp [keptF, ih]
theorem kept_snoc (m : Int) (H : List WrL) (x : WrL) : kept m (H ++ [x]) = if bitOn m ((H.length % 64 : Nat) : Int) then kept m H ++ [x] else kept m H := by
  unfold kept
  rw [keptL_snoc]
  simp only [keptF, keptL_len]
theorem kept_mem {m : Int} {H : List WrL} : ∀ x ∈ kept m H, x ∈ H := by
  induction H using snoc_ind with
  | h0 => intro x hx; cases hx
  | h1 l y ih =>
    intro x hx
    rw [kept_snoc] at hx
    split at hx
    · rcases List.mem_append.1 hx with hx | hx
      · exact List.mem_append_left _ (ih x hx)
      · exact List.mem_append_right _ hx
    · exact List.mem_append_left _ (ih x hx)
theorem kept_le (m : Int) (H : List WrL) : (kept m H).length ≤ H.length := by
  induction H using snoc_ind with
  | h0 => exact Nat.le_refl _
  | h1 l y ih => rw [kept_snoc]; split <;> simp <;> omega
theorem crs_filter (m : Int) (l : List WrL) (c : Int) (z : PgL) (hc : bitOn m c = false) : crs m (l.filter (fun y => !(y.1 == c))) z = crs m l z := by
  induction l generalizing z with
  | nil => rfl
  | cons x r ih =>
    by_cases e : x.1 = c
    · have h1 : (!(x.1 == c)) = false := by simp [e]
      rw [List.filter_cons_of_neg (by simp [e])]
      rw [ih]
      show crs m r z = crs m r (if bitOn m x.1 then x.2 else z)
      rw [e, hc]
      rfl
    · rw [List.filter_cons_of_pos (by simp [e])]
      exact ih _
/-- What is kept in mind serves a crash: it leaves the last of the writes that are kept. -/
theorem crs_kept (m : Int) (H : List WrL) (i : Int) (z : PgL) : crs m (sftOf H i) z = lst (kept m H) i z := by
  induction H using snoc_ind with
  | h0 => rfl
  | h1 l x ih =>
    rw [sftOf_snoc, kept_snoc]
    by_cases e : i = x.1
    · rw [if_pos e, crs_snoc]
      by_cases hb : bitOn m ((l.length % 64 : Nat) : Int) = true
      · rw [if_pos hb, if_pos hb, lst_snoc, if_pos e.symm]
      · rw [if_neg hb, if_neg hb, crs_filter _ _ _ _ (by simpa using hb), ih]
    · rw [if_neg e, ih]
      split
      · rw [lst_snoc, if_neg (Ne.symm e)]
      · rfl
theorem kept_none {H : List WrL} : kept 0 H = [] := by
  induction H using snoc_ind with
  | h0 => rfl
  | h1 l x ih => rw [kept_snoc, ih]; simp [bitOn]
theorem kept_all {H : List WrL} {m : Int} (h : ∀ k : Nat, k < 64 → bitOn m (k : Int) = true) : kept m H = H := by
  induction H using snoc_ind with
  | h0 => rfl
  | h1 l x ih => rw [kept_snoc, ih, if_pos (h _ (Nat.mod_lt _ (by decide)))]
theorem bitOn_all (k : Nat) (hk : k < 64) : bitOn 18446744073709551615 (k : Int) = true := by
  revert k
  decide
/-- A disk: how many sectors; is it down; the budget; what is firm; the writes that aren't, in order. -/
structure DskV where
  size : Int
  down : Bool
  budget : Int
  firm : Int → PgL
  soft : List WrL
def DskV.read (D : DskV) (i : Int) : PgL := lst D.soft i (D.firm i)
def DskV.bud (D : DskV) : Int := if D.budget = -1 then -1 else D.budget - 1
def DskV.write (D : DskV) (i : Int) (p : PgL) : DskV := { D with budget := D.bud, soft := D.soft ++ [(i, p)] }
def DskV.flush (D : DskV) : DskV := { D with firm := fun i => lst D.soft i (D.firm i), soft := [] }
def DskV.crash (D : DskV) (m : Int) : DskV := { D with firm := fun i => lst (kept m D.soft) i (D.firm i), soft := [], down := true }
/-- What holds of every disk. -/
structure DskV.ok (D : DskV) : Prop where
  lo : 1 ≤ D.size
  hi : D.size ≤ 2048
  bud : -1 ≤ D.budget ∧ D.budget ≤ 9223372036854775807
  firm : ∀ i, (D.firm i).length = 64
  soft : ∀ x ∈ D.soft, x.2.length = 64
  place : ∀ x ∈ D.soft, 0 ≤ x.1 ∧ x.1 < D.size
  few : D.soft.length ≤ 1000
theorem DskV.ok.read {D : DskV} (h : D.ok) (i : Int) : (D.read i).length = 64 := lst_len (h.firm i) h.soft
end Go.Proofs.YtpimclhdimcioaaDoor
