/-
  Names and paths as lists of bytes: what a name is, a path's pieces, its depth, what lies under what; splitting and joining undo each other. No program.
-/
import Derived.Lib.Strings
namespace Go.Proofs.YtflomllfehoedaaDoor

def nb (c : UInt8) : Bool := (decide (97 ≤ c.toNat) && decide (c.toNat ≤ 122)) || (decide (48 ≤ c.toNat) && decide (c.toNat ≤ 57)) || c.toNat == 45 || c.toNat == 95
def nm (l : List UInt8) : Bool := decide (1 ≤ l.length) && decide (l.length ≤ 8) && l.all nb
def spl : List UInt8 → List (List UInt8)
  | [] => [[]]
  | c :: r => if c = 47 then [] :: spl r else match spl r with
    | [] => [[c]]
    | h :: t => (c :: h) :: t
/-- a path's pieces: the texts behind its slashes -/
def pcs : List UInt8 → List (List UInt8)
  | [] => []
  | _ :: r => if r = [] then [] else spl r
def good (ns : List (List UInt8)) : Prop := ns.length ≤ 6 ∧ ∀ x ∈ ns, nm x = true
instance (ns : List (List UInt8)) : Decidable (good ns) := inferInstanceAs (Decidable (_ ∧ _))
def jn (ns : List (List UInt8)) : List UInt8 := (ns.map (47 :: ·)).flatten
def pth (ns : List (List UInt8)) : List UInt8 := if ns = [] then [47] else jn ns
def isP (p : List UInt8) : Prop := p.head? = some 47 ∧ good (pcs p)
instance (p : List UInt8) : Decidable (isP p) := inferInstanceAs (Decidable (_ ∧ _))
def dp (p : List UInt8) : Int := if isP p then ((pcs p).length : Int) else -1
def und (p q : List UInt8) : Bool := decide (isP p ∧ isP q ∧ pcs q <+: pcs p ∧ pcs q ≠ pcs p)

theorem nb_slash : nb 47 = false := by decide
theorem nm_noslash {x : List UInt8} (h : nm x = true) : 47 ∉ x := fun hm => by
  simp only [nm, Bool.and_eq_true, List.all_eq_true] at h
  have := h.2 _ hm
  rw [nb_slash] at this
  cases this
theorem nm_ne {x : List UInt8} (h : nm x = true) : x ≠ [] := fun e => by subst e; simp [nm] at h
theorem nm_len {x : List UInt8} (h : nm x = true) : x.length ≤ 8 := by simp [nm] at h; omega

theorem spl_ne (l : List UInt8) : spl l ≠ [] := by
  cases l with
  | nil => simp [spl]
  | cons c r =>
    rw [spl]
    split
    · simp
    · split <;> simp
theorem spl_noslash : ∀ (l : List UInt8), 47 ∉ l → spl l = [l]
  | [], _ => rfl
  | c :: r, h => by
    have h1 : c ≠ 47 := fun e => h (by simp [e])
    have h2 := spl_noslash r (fun e => h (by simp [e]))
    rw [spl, if_neg h1, h2]
theorem spl_cut : ∀ (a b : List UInt8), 47 ∉ a → spl (a ++ 47 :: b) = a :: spl b
  | [], b, _ => by simp [spl]
  | c :: a, b, h => by
    have h1 : c ≠ 47 := fun e => h (by simp [e])
    have h2 := spl_cut a b (fun e => h (by simp [e]))
    rw [List.cons_append, spl, if_neg h1, h2]
theorem spl_noslash_mem : ∀ (l : List UInt8), ∀ x ∈ spl l, 47 ∉ x
  | [], x, h => by simp [spl] at h; subst h; simp
  | c :: r, x, h => by
    rw [spl] at h
    split at h
    · rcases List.mem_cons.1 h with rfl | h
      · simp
      · exact spl_noslash_mem r x h
    · rename_i hc
      split at h
      · rename_i he
        exact absurd he (spl_ne r)
      · rename_i hd tl he
        have hh := spl_noslash_mem r hd (by rw [he]; simp)
        rcases List.mem_cons.1 h with rfl | h
        · intro hm
          rcases List.mem_cons.1 hm with e | hm
          · exact hc e.symm
          · exact hh hm
        · exact spl_noslash_mem r x (by rw [he]; simp [h])
theorem jn_spl : ∀ l : List UInt8, jn (spl l) = 47 :: l
  | [] => rfl
  | c :: r => by
    have ih := jn_spl r
    rw [spl]
    split
    · rename_i h
      subst h
      simp only [jn, List.map_cons, List.flatten_cons] at ih ⊢
      rw [ih]
      rfl
    · split
      · rename_i he
        exact absurd he (spl_ne r)
      · rename_i hd tl he
        rw [he] at ih
        simp only [jn, List.map_cons, List.flatten_cons, List.cons_append, List.cons.injEq, true_and] at ih ⊢
        rw [ih]
theorem jn_cons (x : List UInt8) (ns : List (List UInt8)) : jn (x :: ns) = 47 :: (x ++ jn ns) := by simp [jn]
theorem jn_append (a b : List (List UInt8)) : jn (a ++ b) = jn a ++ jn b := by simp [jn]
theorem spl_jn : ∀ (ns : List (List UInt8)), (∀ x ∈ ns, 47 ∉ x) → ∀ x, 47 ∉ x → spl (x ++ jn ns) = x :: ns
  | [], _, x, hx => by simp [jn, spl_noslash x hx]
  | y :: ns, h, x, hx => by
    rw [jn_cons, spl_cut x _ hx, spl_jn ns (fun z hz => h z (by simp [hz])) y (h y (by simp))]
theorem pth_pcs {p : List UInt8} (h : p.head? = some 47) : pth (pcs p) = p := by
  cases p with
  | nil => cases h
  | cons c r =>
    obtain rfl : c = 47 := by simpa using h
    rw [pcs]
    split
    · rename_i e; subst e; rfl
    · rw [pth, if_neg (spl_ne r), jn_spl]
theorem pcs_pth {ns : List (List UInt8)} (h : ∀ x ∈ ns, nm x = true) : pcs (pth ns) = ns := by
  cases ns with
  | nil => rfl
  | cons x ns =>
    have hx := h x (by simp)
    rw [pth, if_neg (by simp), jn_cons, pcs, if_neg, spl_jn ns (fun y hy => nm_noslash (h y (by simp [hy]))) x (nm_noslash hx)]
    intro e
    exact nm_ne hx (List.append_eq_nil_iff.1 e).1
theorem head_pth (ns : List (List UInt8)) : (pth ns).head? = some 47 := by
  cases ns with
  | nil => rfl
  | cons x ns => rw [pth, if_neg (by simp), jn_cons]; rfl
theorem isP_pth {ns : List (List UInt8)} (h : good ns) : isP (pth ns) := ⟨head_pth ns, by rw [pcs_pth h.2]; exact h⟩
theorem isP.eq {p : List UInt8} (h : isP p) : pth (pcs p) = p := pth_pcs h.1
theorem isP.inj {p q : List UInt8} (hp : isP p) (hq : isP q) (h : pcs p = pcs q) : p = q := by rw [← hp.eq, ← hq.eq, h]
theorem dp_pos {p : List UInt8} (h : isP p) : dp p = ((pcs p).length : Int) := if_pos h
theorem dp_neg {p : List UInt8} (h : ¬ isP p) : dp p = -1 := if_neg h
theorem dp_lt {p : List UInt8} : dp p < 0 ↔ ¬ isP p := by
  by_cases h : isP p
  · rw [dp_pos h]
    exact ⟨fun e => by omega, fun e => absurd h e⟩
  · rw [dp_neg h]
    exact ⟨fun _ => h, fun _ => by omega⟩
theorem jn_ne {ns : List (List UInt8)} (h : ns ≠ []) : ∃ r, jn ns = 47 :: r := by
  cases ns with
  | nil => exact absurd rfl h
  | cons x ns => exact ⟨_, jn_cons x ns⟩

theorem cut_unique : ∀ {a b x y : List UInt8}, 47 ∉ a → 47 ∉ b → (y = [] ∨ ∃ r, y = 47 :: r) → (a ++ 47 :: x) <+: (b ++ y) → a = b ∧ (47 :: x) <+: y
  | [], [], x, y, _, _, _, h => ⟨rfl, by simpa using h⟩
  | [], c :: b, x, y, _, hb, _, ⟨t, ht⟩ => by
    simp at ht
    exact absurd ht.1 (fun e => hb (by simp [e]))
  | c :: a, [], x, y, ha, _, hy, ⟨t, ht⟩ => by
    rcases hy with rfl | ⟨r, rfl⟩
    · simp at ht
    · simp at ht
      exact absurd ht.1 (fun e => ha (by simp [e]))
  | c :: a, d :: b, x, y, ha, hb, hy, ⟨t, ht⟩ => by
    simp only [List.cons_append, List.cons.injEq] at ht
    obtain ⟨h1, h2⟩ := cut_unique (a := a) (b := b) (x := x) (y := y) (fun e => ha (by simp [e])) (fun e => hb (by simp [e])) hy ⟨t, ht.2⟩
    exact ⟨by rw [ht.1, h1], h2⟩
theorem jn_prefix : ∀ {ms ns : List (List UInt8)}, (∀ x ∈ ms, 47 ∉ x) → (∀ x ∈ ns, 47 ∉ x) → ((jn ms ++ [47]) <+: jn ns ↔ ms <+: ns ∧ ms ≠ ns)
  | [], ns, _, hn => by
    constructor
    · intro h
      refine ⟨List.nil_prefix, fun e => ?_⟩
      subst e
      simp [jn] at h
    · rintro ⟨_, h⟩
      obtain ⟨r, hr⟩ := jn_ne (Ne.symm h)
      rw [hr]
      exact ⟨r, by simp [jn]⟩
  | a :: ms, [], _, _ => by
    constructor
    · rintro ⟨t, ht⟩
      simp [jn] at ht
    · rintro ⟨h, _⟩
      simp at h
  | a :: ms, b :: ns, ha, hb => by
    have ih := jn_prefix (ms := ms) (ns := ns) (fun x hx => ha x (by simp [hx])) (fun x hx => hb x (by simp [hx]))
    rw [jn_cons, jn_cons, List.cons_append, List.cons_prefix_cons, List.append_assoc]
    have hms : ∃ r, jn ms ++ [47] = 47 :: r := by
      cases ms with
      | nil => exact ⟨[], rfl⟩
      | cons x ms => exact ⟨x ++ jn ms ++ [47], by rw [jn_cons]; simp⟩
    have hns : jn ns = [] ∨ ∃ r, jn ns = 47 :: r := by
      cases ns with
      | nil => exact .inl rfl
      | cons x ns => exact .inr ⟨_, jn_cons x ns⟩
    constructor
    · rintro ⟨_, h⟩
      obtain ⟨r, hr⟩ := hms
      rw [hr] at h
      obtain ⟨rfl, h2⟩ := cut_unique (ha a (by simp)) (hb b (by simp)) hns h
      rw [← hr] at h2
      obtain ⟨h3, h4⟩ := ih.1 h2
      exact ⟨List.cons_prefix_cons.2 ⟨rfl, h3⟩, fun e => h4 (List.cons.inj e).2⟩
    · rintro ⟨h1, h2⟩
      obtain ⟨rfl, h3⟩ := List.cons_prefix_cons.1 h1
      exact ⟨rfl, (List.prefix_append_right_inj a).2 (ih.2 ⟨h3, fun e => h2 (by rw [e])⟩)⟩

theorem isP.noslash {p : List UInt8} (h : isP p) : ∀ x ∈ pcs p, 47 ∉ x := fun x hx => nm_noslash (h.2.2 x hx)
theorem pcs_nil {p : List UInt8} (h : isP p) : pcs p = [] ↔ p = [47] := by
  constructor
  · intro e
    rw [← h.eq, e]
    rfl
  · rintro rfl
    rfl
/-- what Under does, at two paths -/
theorem und_eq {p q : List UInt8} (hp : isP p) (hq : isP q) : und p q = if q = [47] then decide (p ≠ [47]) else (q ++ [47]).isPrefixOf p := by
  have hu : und p q = decide (pcs q <+: pcs p ∧ pcs q ≠ pcs p) := by simp [und, hp, hq]
  rw [hu]
  split
  · rename_i e
    rw [(pcs_nil hq).2 e]
    by_cases h : p = [47]
    · rw [(pcs_nil hp).2 h]
      simp [h]
    · have := mt (pcs_nil hp).1 h
      simp [h, Ne.symm this]
  · rename_i e
    have hqn := mt (pcs_nil hq).1 e
    have e1 : q = jn (pcs q) := by conv => lhs; rw [← hq.eq, pth, if_neg hqn]
    by_cases h : p = [47]
    · have hpn := (pcs_nil hp).2 h
      rw [hpn]
      have h2 : (q ++ [47]).isPrefixOf p = false := by
        rw [Bool.eq_false_iff]
        intro h3
        have h4 := (List.isPrefixOf_iff_prefix.1 h3).length_le
        rw [h] at h4
        simp at h4
        rw [h4] at hq
        exact absurd hq.1 (by simp)
      rw [h2]
      simp [hqn]
    · have hpn := mt (pcs_nil hp).1 h
      have e2 : p = jn (pcs p) := by conv => lhs; rw [← hp.eq, pth, if_neg hpn]
      have := jn_prefix hq.noslash hp.noslash
      rw [← e1, ← e2] at this
      rw [Bool.eq_iff_iff, decide_eq_true_iff, List.isPrefixOf_iff_prefix]
      exact this.symm
theorem und_neg {p q : List UInt8} (h : ¬ isP p ∨ ¬ isP q) : und p q = false := by
  simp only [und, decide_eq_false_iff_not]
  rintro ⟨a, b, _⟩
  exact h.elim (fun x => x a) (fun x => x b)
theorem und_iff {p q : List UInt8} : und p q = true ↔ isP p ∧ isP q ∧ pcs q <+: pcs p ∧ pcs q ≠ pcs p := by simp [und]
theorem pth_prefix {ms ns : List (List UInt8)} (h : ms <+: ns) : pth ms <+: pth ns := by
  obtain ⟨t, rfl⟩ := h
  cases ms with
  | nil =>
    have := head_pth t
    rw [List.nil_append]
    cases hh : pth t with
    | nil => rw [hh] at this; cases this
    | cons c r =>
      rw [hh] at this
      obtain rfl : c = 47 := by simpa using this
      exact ⟨r, rfl⟩
  | cons x ms =>
    rw [pth, if_neg (by simp), pth, if_neg (by simp), jn_append]
    exact List.prefix_append _ _
/-- what lies under a path has it at its front and is longer -/
theorem und_longer {p q : List UInt8} (h : und p q = true) : q <+: p ∧ q.length < p.length := by
  obtain ⟨hp, hq, h1, h2⟩ := und_iff.1 h
  have h3 := pth_prefix h1
  rw [hp.eq, hq.eq] at h3
  refine ⟨h3, Nat.lt_of_le_of_ne h3.length_le fun e => ?_⟩
  exact h2 (by rw [h3.eq_of_length e])
theorem und_two {p q r : List UInt8} (h1 : und p q = true) (h2 : und p r = true) : q = r ∨ und q r = true ∨ und r q = true := by
  obtain ⟨hp, hq, a1, a2⟩ := und_iff.1 h1
  obtain ⟨_, hr, b1, b2⟩ := und_iff.1 h2
  by_cases e : q = r
  · exact .inl e
  · refine .inr ?_
    rcases List.prefix_or_prefix_of_prefix a1 b1 with h | h
    · exact .inr (und_iff.2 ⟨hr, hq, h, fun h' => e (hq.inj hr h')⟩)
    · exact .inl (und_iff.2 ⟨hq, hr, h, fun h' => e (hq.inj hr h'.symm)⟩)
theorem und_self (p : List UInt8) : und p p = false := by simp [und]
/-! ### the parent -/
theorem good_init {ms : List (List UInt8)} {x : List UInt8} (h : good (ms ++ [x])) : good ms ∧ nm x = true := by
  refine ⟨⟨?_, fun y hy => h.2 y (by simp [hy])⟩, h.2 x (by simp)⟩
  have := h.1
  simp at this
  omega
theorem par {p : List UInt8} (h : isP p) (h1 : p ≠ [47]) : ∃ ms x, good ms ∧ nm x = true ∧ pcs p = ms ++ [x] ∧ p = jn ms ++ 47 :: x := by
  have hn := mt (pcs_nil h).1 h1
  have e : pcs p = (pcs p).dropLast ++ [(pcs p).getLast hn] := (List.dropLast_concat_getLast hn).symm
  have hg := h.2
  rw [e] at hg
  refine ⟨_, _, (good_init hg).1, (good_init hg).2, e, ?_⟩
  have e2 : p = jn (pcs p) := by conv => lhs; rw [← h.eq, pth, if_neg hn]
  conv => lhs; rw [e2, e, jn_append]
  simp [jn]
theorem und_parent {p q : List UInt8} {ms : List (List UInt8)} {x : List UInt8} (hp : isP p) (hm : good ms) (e : pcs p = ms ++ [x]) : und p q = (decide (q = pth ms) || und (pth ms) q) := by
  have hd := isP_pth hm
  have hpd : pcs (pth ms) = ms := pcs_pth hm.2
  rw [Bool.eq_iff_iff, Bool.or_eq_true, und_iff, und_iff, decide_eq_true_iff, e, hpd]
  constructor
  · rintro ⟨_, hq, h1, h2⟩
    rcases List.prefix_concat_iff.1 h1 with h3 | h3
    · exact absurd h3 h2
    · by_cases h4 : pcs q = ms
      · exact .inl (by rw [← hq.eq, h4])
      · exact .inr ⟨hd, hq, h3, h4⟩
  · rintro (rfl | ⟨_, hq, h1, h2⟩)
    · refine ⟨hp, hd, by rw [hpd]; exact List.prefix_append _ _, fun h => ?_⟩
      rw [hpd] at h
      have := congrArg List.length h
      simp at this
    · refine ⟨hp, hq, h1.trans (List.prefix_append _ _), fun h => ?_⟩
      rw [h] at h1
      have := h1.length_le
      simp at this
      omega
end Go.Proofs.YtflomllfehoedaaDoor
