/-
  Sums of bytes, plain and weighted, and the number that Adler-32 makes of them: what holds of them, over lists of bytes alone. No condition.
-/
namespace Go.Proofs.YtflomllfehoedaaDoor

/-- The sum of the bytes. -/
def bS : List UInt8 → Int
  | [] => 0
  | c :: l => (c.toNat : Int) + bS l
/-- The sum of the bytes, each as often as bytes stand from it on. -/
def bW : List UInt8 → Int
  | [] => 0
  | c :: l => ((l.length : Int) + 1) * (c.toNat : Int) + bW l
def sa (l : List UInt8) : Int := 1 + bS l
def sb (l : List UInt8) : Int := (l.length : Int) + bW l
def adl (l : List UInt8) : Int := sb l % 65521 * 65536 + sa l % 65521

theorem byte_lt (c : UInt8) : (c.toNat : Int) ≤ 255 := by have := c.toNat_lt; omega
theorem bS_append (s t : List UInt8) : bS (s ++ t) = bS s + bS t := by
  induction s with
  | nil => simp [bS]
  | cons c l ih => simp only [List.cons_append, bS, ih]; omega
theorem bW_append (s t : List UInt8) : bW (s ++ t) = bW s + (t.length : Int) * bS s + bW t := by
  induction s with
  | nil => simp [bS, bW]
  | cons c l ih =>
    simp only [List.cons_append, bW, bS, ih, List.length_append, Int.natCast_add, Int.mul_add, Int.add_mul]
    omega
theorem sa_append (s t : List UInt8) : sa (s ++ t) = bS s + sa t := by unfold sa; rw [bS_append]; omega
theorem sb_append (s t : List UInt8) : sb (s ++ t) = sb s + sb t + (t.length : Int) * bS s := by unfold sb; rw [bW_append, List.length_append]; omega
theorem sa_snoc (l : List UInt8) (c : UInt8) : sa (l ++ [c]) = sa l + (c.toNat : Int) := by rw [sa_append]; simp [sa, bS]; omega
theorem sb_snoc (l : List UInt8) (c : UInt8) : sb (l ++ [c]) = sb l + sa (l ++ [c]) := by rw [sb_append, sa_snoc]; simp [sa, sb, bW]; omega
theorem bS_le (l : List UInt8) : 0 ≤ bS l ∧ bS l ≤ 255 * (l.length : Int) := by
  induction l with
  | nil => simp [bS]
  | cons c l ih => have := byte_lt c; simp only [bS, List.length_cons, Int.natCast_add]; omega
theorem sb_le (l : List UInt8) (h : l.length ≤ 100000) : 0 ≤ sb l ∧ sb l ≤ (l.length : Int) * 25500001 := by
  have key : ∀ m : List UInt8, m.length ≤ 100000 → 0 ≤ bW m ∧ bW m ≤ (m.length : Int) * 25500000 := by
    intro m
    induction m with
    | nil => intro; simp [bW]
    | cons c l ih =>
      intro hm
      simp only [List.length_cons] at hm
      have h1 := ih (by omega)
      have h2 := byte_lt c
      have h3 : ((l.length : Int) + 1) * (c.toNat : Int) ≤ 100000 * 255 := Int.mul_le_mul (by omega) h2 (by omega) (by omega)
      have h4 : 0 ≤ ((l.length : Int) + 1) * (c.toNat : Int) := Int.mul_nonneg (by omega) (by omega)
      simp only [bW, List.length_cons, Int.natCast_add]
      omega
  have := key l h
  unfold sb
  omega

/-- A step of the sum: the parts by their rests. -/
theorem sa_step (l : List UInt8) (c : UInt8) : (sa l % 65521 + (c.toNat : Int)) % 65521 = sa (l ++ [c]) % 65521 := by rw [sa_snoc]; omega
theorem sb_step (l : List UInt8) (c : UInt8) : (sb l % 65521 + sa (l ++ [c]) % 65521) % 65521 = sb (l ++ [c]) % 65521 := by rw [sb_snoc]; omega
theorem adl_bd (l : List UInt8) : 0 ≤ adl l ∧ adl l < 4294967296 := by unfold adl; omega
theorem adl_lo (l : List UInt8) : adl l % 65536 = sa l % 65521 := by unfold adl; omega
theorem adl_hi (l : List UInt8) : adl l / 65536 = sb l % 65521 := by unfold adl; omega

/-- The sum of two texts, out of numbers. -/
def bothI (x y n : Int) : Int :=
  ((x / 65536 + y / 65536 + (x % 65536 + 65521 - 1) % 65521 * (n % 65521) % 65521) % 65521) * 65536 + ((x % 65536 + 65521 - 1) % 65521 + y % 65536) % 65521
theorem bothI_adl (s t : List UInt8) : bothI (adl s) (adl t) (t.length : Int) = adl (s ++ t) := by
  have e0 : (sa s % 65521 + 65521 - 1) % 65521 = bS s % 65521 := by unfold sa; omega
  have e1 : bS s % 65521 * ((t.length : Int) % 65521) % 65521 = ((t.length : Int) * bS s) % 65521 := by rw [Int.mul_comm, ← Int.mul_emod]
  have e2 : (bS s % 65521 + sa t % 65521) % 65521 = sa (s ++ t) % 65521 := by rw [sa_append]; omega
  have e3 : (sb s % 65521 + sb t % 65521 + ((t.length : Int) * bS s) % 65521) % 65521 = sb (s ++ t) % 65521 := by rw [sb_append]; omega
  unfold bothI
  rw [adl_lo, adl_hi, adl_lo, adl_hi, e0, e1, e2, e3]
  rfl

/-- Unlike plain sums that are near: unlike numbers. -/
theorem adl_ne_sa {s t : List UInt8} (h : bS s ≠ bS t) (h1 : bS s - bS t ≤ 255) (h2 : bS t - bS s ≤ 255) : adl s ≠ adl t := fun e => by
  have := adl_lo s
  rw [e, adl_lo] at this
  unfold sa at this
  omega
theorem adl_ne_sb {s t : List UInt8} (h : sb s ≠ sb t) (h1 : sb s - sb t ≤ 255) (h2 : sb t - sb s ≤ 255) : adl s ≠ adl t := fun e => by
  have := adl_hi s
  rw [e, adl_hi] at this
  omega
theorem bS_set : ∀ (l : List UInt8) (i : Nat) (c : UInt8) (h : i < l.length), bS (l.set i c) = bS l - (l[i].toNat : Int) + (c.toNat : Int)
  | _ :: l, 0, c, _ => by simp [bS]; omega
  | d :: l, i + 1, c, h => by
    have := bS_set l i c (by simpa using h)
    simp only [List.set_cons_succ, bS, this, List.getElem_cons_succ]
    omega
/-- One byte turned: the number turns just if the byte does. -/
theorem adl_set (l : List UInt8) (i : Nat) (c : UInt8) (h : i < l.length) : (adl (l.set i c) = adl l) = (c = l[i]) := by
  apply propext
  constructor
  · intro e
    refine Classical.byContradiction fun hc => ?_
    have h1 := bS_set l i c h
    have h2 := byte_lt c
    have h3 := byte_lt l[i]
    have h4 : (c.toNat : Int) ≠ (l[i].toNat : Int) := fun e => hc (UInt8.toNat_inj.1 (Int.ofNat.inj e))
    exact adl_ne_sa (by omega) (by omega) (by omega) e
  · intro e
    rw [e, List.set_getElem_self]
/-- Two neighbours change places: the number turns unless they are alike. -/
theorem adl_swap (p q : List UInt8) (c d : UInt8) : (adl (p ++ d :: c :: q) = adl (p ++ c :: d :: q)) = (c = d) := by
  apply propext
  constructor
  · intro e
    refine Classical.byContradiction fun hc => ?_
    have h2 := byte_lt c
    have h3 := byte_lt d
    have h4 : (c.toNat : Int) ≠ (d.toNat : Int) := fun e => hc (UInt8.toNat_inj.1 (Int.ofNat.inj e))
    have h5 : sb (p ++ d :: c :: q) - sb (p ++ c :: d :: q) = (d.toNat : Int) - (c.toNat : Int) := by
      unfold sb
      rw [bW_append, bW_append]
      simp only [List.length_append, List.length_cons, bW, Int.natCast_add, Int.add_mul]
      omega
    exact adl_ne_sb (by omega) (by omega) (by omega) e
  · intro e
    rw [e]
end Go.Proofs.YtflomllfehoedaaDoor
