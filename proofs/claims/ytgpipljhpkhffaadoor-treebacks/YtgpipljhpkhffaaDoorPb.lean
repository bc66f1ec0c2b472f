/-
  A number's bytes: its digits of 7 bits, the lowest first; they are 1 to 9, no fewer of a greater number; of two numbers' bytes none are the beginning of the other's. No condition.
  An entry as a value, whether one is right, its bytes: by definition. No condition.
  Entries as bytes, told by lists: one's bytes begin no other one's; what a right entry's parts are. No condition.
  Layers as lists of entries: the order of paths, what a right layer is, one entry more at its end, an entry put and dropped, what lies under a path. No condition.
  A layer laid over a tree, told by lists: what is there then, entry by entry; what comes is a tree; twice is as once; a stack. No condition.
  What is done to a tree (chapter 11), told by lists: what each call answers; what comes is a tree; what is made and removed leaves it as it was. No condition.
  What the laws of layer 11 rest on, told by lists: what comes is a tree, what is refused answers none; what is written is read; what is made and removed leaves the tree as it was; a file that is cut. No condition.
-/
import Derived.WalkKit
import Derived.IntWalk
import Derived.Test.YtgpipljhpkhffaaDoorPa
namespace Go.Proofs.YtgpipljhpkhffaaDoor
open Go.RowKit

/-- A number's bytes: its digits of 7 bits, the lowest first, each but the last one with 128 added. -/
def dg (n : Nat) : List UInt8 := if n < 128 then [UInt8.ofNat n] else UInt8.ofNat (n % 128 + 128) :: dg (n / 128)
termination_by n
decreasing_by omega

theorem dg_last {n : Nat} (h : n < 128) : dg n = [UInt8.ofNat n] := by rw [dg, if_pos h]
theorem dg_more {n : Nat} (h : ¬ n < 128) : dg n = UInt8.ofNat (n % 128 + 128) :: dg (n / 128) := by rw [dg, if_neg h]
theorem ofNat_toNat {n : Nat} (h : n < 256) : (UInt8.ofNat n).toNat = n := by rw [UInt8.toNat_ofNat']; exact Nat.mod_eq_of_lt h

theorem dg_pos (n : Nat) : 1 ≤ (dg n).length := by
  by_cases h : n < 128
  · rw [dg_last h]; simp
  · rw [dg_more h]; simp
theorem dg_le : ∀ (k n : Nat), n < 128 ^ (k + 1) → (dg n).length ≤ k + 1
  | 0, n, h => by rw [dg_last (by simpa using h)]; simp
  | k + 1, n, h => by
    by_cases h1 : n < 128
    · rw [dg_last h1]; simp
    · rw [dg_more h1, List.length_cons]
      have := dg_le k (n / 128) (by rw [Nat.div_lt_iff_lt_mul (by decide)]; rw [Nat.pow_succ] at h; exact h)
      omega
theorem dg_nine {n : Nat} (h : n ≤ 4611686018427387904) : (dg n).length ≤ 9 := dg_le 8 n (by omega)
theorem dg_mono : ∀ (a b : Nat), a ≤ b → (dg a).length ≤ (dg b).length := by
  intro a
  induction a using Nat.strongRecOn with
  | _ a ih =>
    intro b h
    by_cases h1 : a < 128
    · rw [dg_last h1]; exact dg_pos b
    · have h2 : ¬ b < 128 := by omega
      rw [dg_more h1, dg_more h2, List.length_cons, List.length_cons]
      have := ih (a / 128) (by omega) (b / 128) (Nat.div_le_div_right h)
      omega
theorem dg_cut : ∀ (a b : Nat) (x y : List UInt8), dg a ++ x = dg b ++ y → a = b ∧ x = y := by
  intro a
  induction a using Nat.strongRecOn with
  | _ a ih =>
    intro b x y h
    by_cases h1 : a < 128
    · by_cases h2 : b < 128
      · rw [dg_last h1, dg_last h2] at h
        simp only [List.cons_append, List.nil_append, List.cons.injEq] at h
        have e := congrArg UInt8.toNat h.1
        rw [ofNat_toNat (by omega), ofNat_toNat (by omega)] at e
        exact ⟨e, h.2⟩
      · rw [dg_last h1, dg_more h2] at h
        simp only [List.cons_append, List.nil_append, List.cons.injEq] at h
        have e := congrArg UInt8.toNat h.1
        rw [ofNat_toNat (by omega), ofNat_toNat (by omega)] at e
        omega
    · by_cases h2 : b < 128
      · rw [dg_more h1, dg_last h2] at h
        simp only [List.cons_append, List.nil_append, List.cons.injEq] at h
        have e := congrArg UInt8.toNat h.1
        rw [ofNat_toNat (by omega), ofNat_toNat (by omega)] at e
        omega
      · rw [dg_more h1, dg_more h2] at h
        simp only [List.cons_append, List.cons.injEq] at h
        have e := congrArg UInt8.toNat h.1
        rw [ofNat_toNat (by omega), ofNat_toNat (by omega)] at e
        obtain ⟨e2, e3⟩ := ih (a / 128) (by omega) (b / 128) x y h.2
        exact ⟨by omega, e3⟩
theorem dg_inj {a b : Nat} (h : dg a = dg b) : a = b := (dg_cut a b [] [] (by rw [h])).1

/-- The bytes as a text. -/
def numB (n : Nat) : ByteArray := ⟨(dg n).toArray⟩
theorem numB_list (n : Nat) : (numB n).data.toList = dg n := by simp [numB]
theorem numB_size (n : Nat) : (numB n).size = (dg n).length := rfl
theorem numB_size_nine {n : Nat} (h : n ≤ 4611686018427387904) : (numB n).size ≤ 9 := dg_nine h
theorem numB_size_pos (n : Nat) : 1 ≤ (numB n).size := dg_pos n
theorem numB_inj {a b : Nat} (h : numB a = numB b) : a = b := dg_inj (by rw [← numB_list, h, numB_list])

/-- The lowest 62 bits of any number. -/
theorem low62 (a : Int) : ∃ x : Nat, bits .and .i64 a 4611686018427387903 = (x : Int) ∧ x < 4611686018427387904 := by
  have h : (BitVec.ofInt 64 a &&& BitVec.ofInt 64 4611686018427387903).toNat ≤ 4611686018427387903 := by
    rw [BitVec.toNat_and]
    exact Nat.le_trans Nat.and_le_right (by decide)
  refine ⟨(BitVec.ofInt 64 a &&& BitVec.ofInt 64 4611686018427387903).toNat, ?_, by omega⟩
  show IntKind.i64.wrap ((BitVec.ofInt 64 a &&& BitVec.ofInt 64 4611686018427387903).toNat : Int) = _
  exact IntWalk.i64_in _ (by omega)
end Go.Proofs.YtgpipljhpkhffaaDoor

namespace Go.Proofs.YtgpipljhpkhffaaDoor
open Go.RowKit

/-- An entry as a value. -/
abbrev entV (p : ByteArray) (k : Int) (d : ByteArray) : Value := .agg #[.string p, .int .i64 k, .string d]
/-- Is an entry right? -/
def rightE (p : ByteArray) (k : Int) (d : ByteArray) : Bool := decide (1 ≤ dp p.data.toList) && (((k == 1) && decide (d.size ≤ 256)) || (decide (2 ≤ k ∧ k ≤ 4) && decide (d.size = 0)))
/-- An entry's bytes. -/
def layE (p : ByteArray) (k : Nat) (d : ByteArray) : ByteArray := numB k ++ numB p.size ++ p ++ numB d.size ++ d
end Go.Proofs.YtgpipljhpkhffaaDoor

namespace Go.Proofs.YtgpipljhpkhffaaDoor
open Go.RowKit

theorem layE_list (p : ByteArray) (k : Nat) (d : ByteArray) : (layE p k d).data.toList = dg k ++ (dg p.size ++ (p.data.toList ++ (dg d.size ++ d.data.toList))) := by
  unfold layE
  simp only [ByteArray.data_append, Array.toList_append, numB_list, List.append_assoc]
theorem ba_ext {a b : ByteArray} (h : a.data.toList = b.data.toList) : a = b := by
  apply ByteArray.ext
  exact Array.ext' h
/-- Two entries' bytes, with anything behind them, are the same only if both are. -/
theorem layE_cut {p q d e : ByteArray} {k m : Nat} {x y : List UInt8} (h : (layE p k d).data.toList ++ x = (layE q m e).data.toList ++ y) : p = q ∧ k = m ∧ d = e ∧ x = y := by
  rw [layE_list, layE_list] at h
  simp only [List.append_assoc] at h
  obtain ⟨rfl, h1⟩ := dg_cut _ _ _ _ h
  obtain ⟨h2, h3⟩ := dg_cut _ _ _ _ h1
  obtain ⟨h4, h5⟩ := List.append_inj h3 (by rw [← Lib.size_eq, ← Lib.size_eq]; exact h2)
  obtain ⟨h6, h7⟩ := dg_cut _ _ _ _ h5
  obtain ⟨h8, h9⟩ := List.append_inj h7 (by rw [← Lib.size_eq, ← Lib.size_eq]; exact h6)
  exact ⟨ba_ext h4, rfl, ba_ext h8, h9⟩
theorem rightE_parts {p d : ByteArray} {k : Int} (h : rightE p k d = true) : 1 ≤ dp p.data.toList ∧ 1 ≤ k ∧ k ≤ 4 ∧ d.size ≤ 256 ∧ (k = 1 ∨ d.size = 0) := by
  unfold rightE at h
  rw [Bool.and_eq_true, decide_eq_true_iff, Bool.or_eq_true, Bool.and_eq_true, Bool.and_eq_true, beq_iff_eq, decide_eq_true_iff, decide_eq_true_iff, decide_eq_true_iff] at h
  omega
theorem rightE_of {p d : ByteArray} {k : Int} (h1 : 1 ≤ dp p.data.toList) (h2 : (k = 1 ∧ d.size ≤ 256) ∨ ((2 ≤ k ∧ k ≤ 4) ∧ d.size = 0)) : rightE p k d = true := by
  unfold rightE
  rw [Bool.and_eq_true, decide_eq_true_iff, Bool.or_eq_true, Bool.and_eq_true, Bool.and_eq_true, beq_iff_eq, decide_eq_true_iff, decide_eq_true_iff, decide_eq_true_iff]
  exact ⟨h1, h2⟩
theorem rightE_iff {p d : ByteArray} {k : Int} : rightE p k d = true ↔ 1 ≤ dp p.data.toList ∧ ((k = 1 ∧ d.size ≤ 256) ∨ ((2 ≤ k ∧ k ≤ 4) ∧ d.size = 0)) := by
  unfold rightE
  rw [Bool.and_eq_true, decide_eq_true_iff, Bool.or_eq_true, Bool.and_eq_true, Bool.and_eq_true, beq_iff_eq, decide_eq_true_iff, decide_eq_true_iff, decide_eq_true_iff]
theorem isP_of_dp {l : List UInt8} (h : 1 ≤ dp l) : isP l := by
  by_cases hp : isP l
  · exact hp
  · rw [dp_neg hp] at h
    omega
/-- A path of names has at most 54 bytes. -/
theorem jn_len : ∀ (ns : List (List UInt8)), (∀ x ∈ ns, x.length ≤ 8) → (jn ns).length ≤ 9 * ns.length
  | [], _ => by simp [jn]
  | x :: r, h => by
    have h1 := h x List.mem_cons_self
    have h2 := jn_len r fun y hy => h y (List.mem_cons_of_mem _ hy)
    have h3 : jn (x :: r) = 47 :: (x ++ jn r) := by simp [jn]
    rw [h3]
    simp
    omega
theorem isP_len {l : List UInt8} (h : isP l) : l.length ≤ 54 := by
  have h6 := h.2.1
  have h8 : ∀ x ∈ pcs l, x.length ≤ 8 := fun x hx => nm_len (h.2.2 x hx)
  rw [← h.eq, pth]
  split
  · decide
  · have := jn_len _ h8
    omega
end Go.Proofs.YtgpipljhpkhffaaDoor

namespace Go.Proofs.YtgpipljhpkhffaaDoor
open Go.RowKit

/-- Is a text less, byte by byte? -/
def lt8 (a b : List UInt8) : Bool := Op.bytesLess a b
theorem lt8_irr : ∀ a : List UInt8, lt8 a a = false
  | [] => rfl
  | c :: x => by
    have := lt8_irr x
    show (decide (c < c) || (c == c && Op.bytesLess x x)) = false
    rw [show Op.bytesLess x x = false from this]
    simp
theorem lt8_cons (c d : UInt8) (x y : List UInt8) : lt8 (c :: x) (d :: y) = (decide (c < d) || (c == d && lt8 x y)) := rfl
theorem lt8_trans : ∀ {a b c : List UInt8}, lt8 a b = true → lt8 b c = true → lt8 a c = true
  | [], [], _, h, _ => by cases h
  | [], _ :: _, [], _, h => by cases h
  | [], _ :: _, _ :: _, _, _ => rfl
  | _ :: _, [], _, h, _ => by cases h
  | _ :: _, _ :: _, [], _, h => by cases h
  | p :: x, q :: y, r :: z, h1, h2 => by
    rw [lt8_cons, Bool.or_eq_true, Bool.and_eq_true, decide_eq_true_iff, beq_iff_eq, UInt8.lt_iff_toNat_lt] at *
    rcases h1 with h1 | ⟨rfl, h1⟩
    · rcases h2 with h2 | ⟨rfl, h2⟩
      · exact .inl (by omega)
      · exact .inl h1
    · rcases h2 with h2 | ⟨rfl, h2⟩
      · exact .inl h2
      · exact .inr ⟨rfl, lt8_trans h1 h2⟩
theorem lt8_tri : ∀ a b : List UInt8, a = b ∨ lt8 a b = true ∨ lt8 b a = true
  | [], [] => .inl rfl
  | [], _ :: _ => .inr (.inl rfl)
  | _ :: _, [] => .inr (.inr rfl)
  | p :: x, q :: y => by
    rw [lt8_cons, lt8_cons, Bool.or_eq_true, Bool.and_eq_true, decide_eq_true_iff, beq_iff_eq, Bool.or_eq_true, Bool.and_eq_true, decide_eq_true_iff, beq_iff_eq, UInt8.lt_iff_toNat_lt, UInt8.lt_iff_toNat_lt]
    by_cases h : p = q
    · subst h
      rcases lt8_tri x y with rfl | h | h
      · exact .inl rfl
      · exact .inr (.inl (.inr ⟨rfl, h⟩))
      · exact .inr (.inr (.inr ⟨rfl, h⟩))
    · have : p.toNat ≠ q.toNat := fun e => h (UInt8.toNat_inj.1 e)
      rcases Nat.lt_or_gt_of_ne this with h | h
      · exact .inr (.inl (.inl h))
      · exact .inr (.inr (.inl h))
theorem lt8_asymm {a b : List UInt8} (h : lt8 a b = true) : lt8 b a = false := by
  cases h2 : lt8 b a with
  | false => rfl
  | true => have := lt8_trans h h2; rw [lt8_irr] at this; cases this
theorem lt8_ne {a b : List UInt8} (h : lt8 a b = true) : a ≠ b := fun e => by rw [e, lt8_irr] at h; cases h
theorem lt8_prefix : ∀ {a b : List UInt8}, a <+: b → a.length < b.length → lt8 a b = true
  | [], [], _, h => by simp at h
  | [], _ :: _, _, _ => rfl
  | c :: x, [], h, _ => by simp at h
  | c :: x, d :: y, h, hl => by
    obtain ⟨rfl, h2⟩ := List.cons_prefix_cons.1 h
    have := lt8_prefix h2 (by simpa using hl)
    rw [lt8_cons, this]
    simp
/-- An entry: path, kind, data. -/
abbrev Ent := ByteArray × Int × ByteArray
/-- Its path's bytes. -/
abbrev pl (e : Ent) : List UInt8 := e.1.data.toList
def rE (e : Ent) : Bool := rightE e.1 e.2.1 e.2.2
/-- A directory. -/
def hd (e : Ent) : Bool := e.2.1 == 2 || e.2.1 == 4
/-- A path's directory. -/
def par9 (p : List UInt8) : List UInt8 := pth (pcs p).dropLast
/-- An entry that lies in the root, or whose directory is there. -/
def inD (l : List Ent) (e : Ent) : Prop := par9 (pl e) = [47] ∨ ∃ d ∈ l, pl d = par9 (pl e) ∧ hd d = true
instance (l : List Ent) (e : Ent) : Decidable (inD l e) := inferInstanceAs (Decidable (_ ∨ _))
abbrev Asc (l : List Ent) : Prop := l.Pairwise fun a b => lt8 (pl a) (pl b) = true
/-- A right layer, but for its size. -/
def RL (l : List Ent) : Prop := (∀ e ∈ l, rE e = true) ∧ Asc l ∧ ∀ e ∈ l, inD l e
instance (l : List Ent) : Decidable (RL l) := inferInstanceAs (Decidable (_ ∧ _))
/-- A right layer. -/
def RightL (l : List Ent) : Prop := l.length ≤ 64 ∧ RL l
instance (l : List Ent) : Decidable (RightL l) := inferInstanceAs (Decidable (_ ∧ _))

theorem rE_isP {e : Ent} (h : rE e = true) : isP (pl e) ∧ pl e ≠ [47] := by
  obtain ⟨h1, _⟩ := rightE_parts h
  have hp := isP_of_dp h1
  refine ⟨hp, fun e0 => ?_⟩
  rw [dp_pos hp, (pcs_nil hp).2 e0] at h1
  simp at h1
theorem par9_parts {p : List UInt8} (h : isP p) (h1 : p ≠ [47]) : ∃ ms x, good ms ∧ nm x = true ∧ pcs p = ms ++ [x] ∧ p = jn ms ++ 47 :: x ∧ par9 p = pth ms := by
  obtain ⟨ms, x, a1, a2, a3, a4⟩ := par h h1
  exact ⟨ms, x, a1, a2, a3, a4, by unfold par9; rw [a3, List.dropLast_concat]⟩
theorem und_par9 {p q : List UInt8} (h : isP p) (h1 : p ≠ [47]) : und p q = (decide (q = par9 p) || und (par9 p) q) := by
  obtain ⟨ms, x, a1, _, a3, _, a5⟩ := par9_parts h h1
  rw [a5]
  exact und_parent h a1 a3
theorem par9_lt {p : List UInt8} (h : isP p) (h1 : p ≠ [47]) : lt8 (par9 p) p = true := by
  have h2 := und_par9 (q := par9 p) h h1
  rw [decide_eq_true rfl, Bool.true_or] at h2
  obtain ⟨h3, h4⟩ := und_longer h2
  exact lt8_prefix h3 h4
theorem und_lt {p q : List UInt8} (h : und p q = true) : lt8 q p = true := by
  obtain ⟨h3, h4⟩ := und_longer h
  exact lt8_prefix h3 h4

theorem rl_nil : RL [] := ⟨by simp, List.Pairwise.nil, by simp⟩
theorem asc_snoc {l : List Ent} {e : Ent} : Asc (l ++ [e]) ↔ Asc l ∧ ∀ a ∈ l, lt8 (pl a) (pl e) = true := by
  unfold Asc
  rw [List.pairwise_append]
  simp
theorem asc_last {l : List Ent} {e : Ent} (h : Asc l) : (∀ a ∈ l, lt8 (pl a) (pl e) = true) ↔ ∀ a, l.getLast? = some a → lt8 (pl a) (pl e) = true := by
  constructor
  · intro h2 a ha
    exact h2 a (List.mem_of_getLast? ha)
  · intro h2 a ha
    rcases List.eq_nil_or_concat l with rfl | ⟨r, b, rfl⟩
    · cases ha
    · have hb := h2 b (by simp)
      rw [List.concat_eq_append] at *
      rcases List.mem_append.1 ha with h3 | h3
      · exact lt8_trans ((asc_snoc.1 h).2 a h3) hb
      · obtain rfl : a = b := by simpa using h3
        exact hb
theorem rl_snoc {l : List Ent} {e : Ent} : RL (l ++ [e]) ↔ RL l ∧ rE e = true ∧ (∀ a, l.getLast? = some a → lt8 (pl a) (pl e) = true) ∧ inD l e := by
  constructor
  · rintro ⟨h1, h2, h3⟩
    obtain ⟨h4, h5⟩ := asc_snoc.1 h2
    have he := h1 e (by simp)
    obtain ⟨p1, p2⟩ := rE_isP he
    refine ⟨⟨fun x hx => h1 x (by simp [hx]), h4, fun x hx => ?_⟩, he, (asc_last h4).1 h5, ?_⟩
    · refine (h3 x (by simp [hx])).imp_right ?_
      rintro ⟨d, hd1, hd2, hd3⟩
      rcases List.mem_append.1 hd1 with h | h
      · exact ⟨d, h, hd2, hd3⟩
      · obtain rfl : d = e := by simpa using h
        obtain ⟨q1, q2⟩ := rE_isP (h1 x (by simp [hx]))
        have a1 := par9_lt q1 q2
        rw [← hd2] at a1
        have a2 := lt8_trans a1 (h5 x hx)
        rw [lt8_irr] at a2
        cases a2
    · refine (h3 e (by simp)).imp_right ?_
      rintro ⟨d, hd1, hd2, hd3⟩
      rcases List.mem_append.1 hd1 with h | h
      · exact ⟨d, h, hd2, hd3⟩
      · obtain rfl : d = e := by simpa using h
        have a1 := par9_lt p1 p2
        rw [← hd2, lt8_irr] at a1
        cases a1
  · rintro ⟨⟨h1, h2, h3⟩, h4, h5, h6⟩
    refine ⟨fun x hx => ?_, asc_snoc.2 ⟨h2, (asc_last h2).2 h5⟩, fun x hx => ?_⟩
    · rcases List.mem_append.1 hx with h | h
      · exact h1 x h
      · obtain rfl : x = e := by simpa using h
        exact h4
    · rcases List.mem_append.1 hx with h | h
      · exact (h3 x h).imp_right fun ⟨d, a, b⟩ => ⟨d, by simp [a], b⟩
      · obtain rfl : x = e := by simpa using h
        exact h6.imp_right fun ⟨d, a, b⟩ => ⟨d, by simp [a], b⟩
theorem rl_take {l : List Ent} (h : RL l) (n : Nat) : RL (l.take n) := by
  have key : ∀ k (m : List Ent), m.length = k → ∀ n, RL m → RL (m.take n) := by
    intro k
    induction k with
    | zero => intro m hm n h; rw [List.length_eq_zero_iff.1 hm]; simpa using rl_nil
    | succ k ih =>
      intro m hm n h
      rcases List.eq_nil_or_concat m with rfl | ⟨r, b, rfl⟩
      · simpa using rl_nil
      · rw [List.concat_eq_append] at *
        simp at hm
        by_cases hn : n ≤ r.length
        · rw [List.take_append_of_le_length hn]
          exact ih r hm n (rl_snoc.1 h).1
        · rw [List.take_of_length_le (by simp; omega)]
          exact h
  exact key _ l rfl n h
theorem asc_inj {l : List Ent} (h : Asc l) {a b : Ent} (ha : a ∈ l) (hb : b ∈ l) (e : pl a = pl b) : a = b := by
  induction l with
  | nil => cases ha
  | cons x r ih =>
    obtain ⟨h1, h2⟩ := List.pairwise_cons.1 h
    rcases List.mem_cons.1 ha with e1 | ha'
    · rcases List.mem_cons.1 hb with e2 | hb'
      · rw [e1, e2]
      · have := h1 b hb'; rw [← e1, e, lt8_irr] at this; cases this
    · rcases List.mem_cons.1 hb with e2 | hb'
      · have := h1 a ha'; rw [← e2, e, lt8_irr] at this; cases this
      · exact ih h2 ha' hb'

/-- The entry at a path. -/
def fnd (l : List Ent) (p : List UInt8) : Option Ent := l.find? fun e => decide (pl e = p)
theorem fnd_some {l : List Ent} (h : Asc l) {p : List UInt8} {e : Ent} : fnd l p = some e ↔ e ∈ l ∧ pl e = p := by
  unfold fnd
  constructor
  · intro he
    have h1 := List.find?_some he
    exact ⟨List.mem_of_find?_eq_some he, by simpa using h1⟩
  · rintro ⟨h1, h2⟩
    cases hf : l.find? fun e => decide (pl e = p) with
    | none =>
      have := List.find?_eq_none.1 hf e h1
      simp [h2] at this
    | some x =>
      have h3 := List.find?_some hf
      have h4 : pl x = p := by simpa using h3
      rw [asc_inj h (List.mem_of_find?_eq_some hf) h1 (h4.trans h2.symm)]
theorem fnd_none {l : List Ent} {p : List UInt8} : fnd l p = none ↔ ∀ e ∈ l, pl e ≠ p := by
  unfold fnd
  rw [List.find?_eq_none]
  simp

/-- Entries with one, instead of that at its path. -/
def wth (l : List Ent) (e : Ent) : List Ent := l.filter (fun a => lt8 (pl a) (pl e)) ++ e :: l.filter (fun a => lt8 (pl e) (pl a))
/-- Entries without that at a path. -/
def wout (l : List Ent) (p : List UInt8) : List Ent := l.filter fun a => decide (pl a ≠ p)
theorem mem_wth {l : List Ent} {e x : Ent} : x ∈ wth l e ↔ x = e ∨ x ∈ l ∧ pl x ≠ pl e := by
  unfold wth
  rw [List.mem_append, List.mem_cons, List.mem_filter, List.mem_filter]
  constructor
  · rintro (⟨h1, h2⟩ | rfl | ⟨h1, h2⟩)
    · exact .inr ⟨h1, lt8_ne h2⟩
    · exact .inl rfl
    · exact .inr ⟨h1, (lt8_ne h2).symm⟩
  · rintro (rfl | ⟨h1, h2⟩)
    · exact .inr (.inl rfl)
    · rcases lt8_tri (pl x) (pl e) with h | h | h
      · exact absurd h h2
      · exact .inl ⟨h1, h⟩
      · exact .inr (.inr ⟨h1, h⟩)
theorem asc_wth {l : List Ent} (h : Asc l) (e : Ent) : Asc (wth l e) := by
  unfold wth Asc
  rw [List.pairwise_append, List.pairwise_cons]
  refine ⟨h.filter _, ⟨fun x hx => by simpa using (List.mem_filter.1 hx).2, h.filter _⟩, fun a ha b hb => ?_⟩
  have h1 : lt8 (pl a) (pl e) = true := by simpa using (List.mem_filter.1 ha).2
  rcases List.mem_cons.1 hb with rfl | hb
  · exact h1
  · exact lt8_trans h1 (by simpa using (List.mem_filter.1 hb).2)
theorem asc_ext : ∀ {a b : List Ent}, Asc a → Asc b → (∀ x, x ∈ a ↔ x ∈ b) → a = b
  | [], [], _, _, _ => rfl
  | [], y :: s, _, _, h => absurd ((h y).2 List.mem_cons_self) (by simp)
  | x :: r, [], _, _, h => absurd ((h x).1 List.mem_cons_self) (by simp)
  | x :: r, y :: s, ha, hb, h => by
    obtain ⟨a1, a2⟩ := List.pairwise_cons.1 ha
    obtain ⟨b1, b2⟩ := List.pairwise_cons.1 hb
    have hxy : x = y := by
      rcases List.mem_cons.1 ((h x).1 List.mem_cons_self) with e | e
      · exact e
      · rcases List.mem_cons.1 ((h y).2 List.mem_cons_self) with e2 | e2
        · exact e2.symm
        · have := lt8_trans (b1 x e) (a1 y e2)
          rw [lt8_irr] at this
          cases this
    subst hxy
    rw [asc_ext a2 b2 fun z => ?_]
    constructor
    · intro hz
      rcases List.mem_cons.1 ((h z).1 (List.mem_cons_of_mem _ hz)) with rfl | e
      · have := a1 z hz; rw [lt8_irr] at this; cases this
      · exact e
    · intro hz
      rcases List.mem_cons.1 ((h z).2 (List.mem_cons_of_mem _ hz)) with rfl | e
      · have := b1 z hz; rw [lt8_irr] at this; cases this
      · exact e
theorem wth_snoc {l : List Ent} {e : Ent} (h : ∀ a ∈ l, lt8 (pl a) (pl e) = true) : wth l e = l ++ [e] := by
  unfold wth
  rw [List.filter_eq_self.2 h, List.filter_eq_nil_iff.2 fun a ha => by rw [lt8_asymm (h a ha)]; simp]
theorem wth_mem {l : List Ent} (h : Asc l) {e : Ent} (he : e ∈ l) : wth l e = l := by
  refine asc_ext (asc_wth h e) h fun x => ?_
  rw [mem_wth]
  constructor
  · rintro (rfl | ⟨h1, _⟩)
    · exact he
    · exact h1
  · intro hx
    by_cases e1 : pl x = pl e
    · exact .inl (asc_inj h hx he e1)
    · exact .inr ⟨hx, e1⟩
theorem fnd_wth {l : List Ent} (h : Asc l) (e : Ent) (p : List UInt8) : fnd (wth l e) p = if p = pl e then some e else fnd l p := by
  split
  · rename_i h1
    exact (fnd_some (asc_wth h e)).2 ⟨mem_wth.2 (.inl rfl), h1.symm⟩
  · rename_i h1
    cases hf : fnd l p with
    | none =>
      rw [fnd_none] at hf ⊢
      intro x hx
      rcases mem_wth.1 hx with rfl | ⟨h2, _⟩
      · exact fun e0 => h1 e0.symm
      · exact hf x h2
    | some x =>
      rw [fnd_some h] at hf
      rw [fnd_some (asc_wth h e)]
      exact ⟨mem_wth.2 (.inr ⟨hf.1, fun e0 => h1 (hf.2.symm.trans e0)⟩), hf.2⟩
theorem fnd_wout (l : List Ent) (p : List UInt8) : fnd (wout l p) p = none := by
  rw [fnd_none]
  intro e he
  simpa using (List.mem_filter.1 he).2
theorem len_wout {l : List Ent} (h : Asc l) {p : List UInt8} {e : Ent} (he : fnd l p = some e) : (wout l p).length + 1 = l.length := by
  rw [fnd_some h] at he
  obtain ⟨he, hp⟩ := he
  induction l with
  | nil => cases he
  | cons x r ih =>
    obtain ⟨h1, h2⟩ := List.pairwise_cons.1 h
    unfold wout
    rcases List.mem_cons.1 he with rfl | he
    · rw [List.filter_cons_of_neg (by simp [hp]), List.filter_eq_self.2 fun y hy => ?_]
      · rfl
      · have := lt8_ne (h1 y hy)
        simp only [ne_eq, decide_not, Bool.not_eq_eq_eq_not, Bool.not_true, decide_eq_false_iff_not]
        exact fun e0 => this (hp.trans e0.symm)
    · have h3 : pl x ≠ p := fun e0 => by
        have := lt8_ne (h1 e he)
        exact this (e0.trans hp.symm)
      rw [List.filter_cons_of_pos (by simpa using h3), List.length_cons, List.length_cons]
      have := ih h2 he
      unfold wout at this
      omega
/-- What lies under a path. -/
def blw (l : List Ent) (p : List UInt8) : List Ent := l.filter fun a => und (pl a) p
/-- The rest: neither at a path nor under it. -/
def rst (l : List Ent) (p : List UInt8) : List Ent := l.filter fun a => !und (pl a) p && decide (pl a ≠ p)
theorem rl_rst {l : List Ent} (h : RL l) (p : List UInt8) : RL (rst l p) := by
  obtain ⟨h1, h2, h3⟩ := h
  refine ⟨fun e he => h1 e ((List.mem_filter.1 he).1), h2.filter _, fun e he => ?_⟩
  have hr := h1 e ((List.mem_filter.1 he).1)
  obtain ⟨p1, p2⟩ := rE_isP hr
  refine (h3 e ((List.mem_filter.1 he).1)).imp_right ?_
  rintro ⟨d, hd1, hd2, hd3⟩
  refine ⟨d, List.mem_filter.2 ⟨hd1, ?_⟩, hd2, hd3⟩
  have hu := (List.mem_filter.1 he).2
  rw [Bool.and_eq_true, Bool.not_eq_eq_eq_not, Bool.not_true, decide_eq_true_iff] at hu ⊢
  have hq := und_par9 (q := p) p1 p2
  rw [hu.1] at hq
  rw [hd2]
  rw [eq_comm, Bool.or_eq_false_iff, decide_eq_false_iff_not] at hq
  exact ⟨hq.2, fun e0 => hq.1 e0.symm⟩
theorem len_rst (l : List Ent) (p : List UInt8) : (rst l p).length ≤ l.length := List.length_filter_le _ _
end Go.Proofs.YtgpipljhpkhffaaDoor

namespace Go.Proofs.YtgpipljhpkhffaaDoor
open Go.RowKit

/-- The directory at a path. -/
def dE (p : ByteArray) : Ent := (p, 2, ⟨#[]⟩)
/-- One entry laid over a tree. -/
def over1 (t : List Ent) (e : Ent) : List Ent :=
  if e.2.1 = 2 then wth t (dE e.1) else if e.2.1 = 1 then wth (rst t (pl e)) e else if e.2.1 = 4 then wth (rst t (pl e)) (dE e.1) else rst t (pl e)
/-- A layer laid over a tree. -/
def over (t l : List Ent) : List Ent := l.foldl over1 t
/-- A tree, but for its size. -/
def TR (t : List Ent) : Prop := RL t ∧ ∀ e ∈ t, e.2.1 ≤ 2
instance (t : List Ent) : Decidable (TR t) := inferInstanceAs (Decidable (_ ∧ _))
/-- A tree. -/
def TreeL (t : List Ent) : Prop := t.length ≤ 1024 ∧ TR t
instance (t : List Ent) : Decidable (TreeL t) := inferInstanceAs (Decidable (_ ∧ _))
/-- What an entry shows. -/
def sh (e : Ent) : Ent := if e.2.1 = 1 then e else dE e.1
theorem pl_sh (e : Ent) : pl (sh e) = pl e := by unfold sh; split <;> rfl
theorem asc_rst {t : List Ent} (h : Asc t) (p : List UInt8) : Asc (rst t p) := h.filter _
theorem mem_rst {t : List Ent} {p : List UInt8} {x : Ent} : x ∈ rst t p ↔ x ∈ t ∧ und (pl x) p = false ∧ pl x ≠ p := by
  unfold rst
  rw [List.mem_filter, Bool.and_eq_true, Bool.not_eq_eq_eq_not, Bool.not_true, decide_eq_true_iff]
theorem asc_over1 {t : List Ent} (h : Asc t) (e : Ent) : Asc (over1 t e) := by
  unfold over1
  split
  · exact asc_wth h _
  · split
    · exact asc_wth (asc_rst h _) _
    · split
      · exact asc_wth (asc_rst h _) _
      · exact asc_rst h _
theorem asc_over : ∀ {l t : List Ent}, Asc t → Asc (over t l)
  | [], _, h => h
  | e :: r, _, h => asc_over (l := r) (asc_over1 h e)
theorem over_snoc (t l : List Ent) (e : Ent) : over t (l ++ [e]) = over1 (over t l) e := by unfold over; rw [List.foldl_append]; rfl
/-- A tree's directory is its path's. -/
theorem dir_eq {x : Ent} (h : rE x = true) (hk : x.2.1 = 2) : x = dE x.1 := by
  obtain ⟨_, _, _, _, h5⟩ := rightE_parts h
  obtain ⟨p, k, d⟩ := x
  simp only at hk h5
  subst hk
  have : d = ⟨#[]⟩ := by
    rcases h5 with h5 | h5
    · cases h5
    · exact ba_ext (List.length_eq_zero_iff.1 (by rw [← Lib.size_eq]; exact h5))
  rw [this]
  rfl
/-- What is there behind one entry. -/
theorem mem_over1 {t : List Ent} {e x : Ent} (hk : 1 ≤ e.2.1 ∧ e.2.1 ≤ 4) : x ∈ over1 t e ↔ (e.2.1 ≠ 3 ∧ x = sh e) ∨ (x ∈ t ∧ pl x ≠ pl e ∧ (e.2.1 ≠ 2 → und (pl x) (pl e) = false)) := by
  unfold over1 sh
  by_cases h2 : e.2.1 = 2
  · rw [if_pos h2, mem_wth, if_neg (by omega)]
    simp only [h2]
    constructor
    · rintro (h | ⟨h, h'⟩)
      · exact .inl ⟨by omega, h⟩
      · exact .inr ⟨h, h', fun h9 => absurd rfl h9⟩
    · rintro (⟨_, h⟩ | ⟨h, h', _⟩)
      · exact .inl h
      · exact .inr ⟨h, h'⟩
  · rw [if_neg h2]
    by_cases h1 : e.2.1 = 1
    · rw [if_pos h1, if_pos h1, mem_wth, mem_rst]
      constructor
      · rintro (h | ⟨⟨h, h', h''⟩, _⟩)
        · exact .inl ⟨by omega, h⟩
        · exact .inr ⟨h, h'', fun _ => h'⟩
      · rintro (⟨_, h⟩ | ⟨h, h', h''⟩)
        · exact .inl h
        · exact .inr ⟨⟨h, h'' h2, h'⟩, h'⟩
    · rw [if_neg h1, if_neg h1]
      by_cases h4 : e.2.1 = 4
      · rw [if_pos h4, mem_wth, mem_rst]
        constructor
        · rintro (h | ⟨⟨h, h', h''⟩, _⟩)
          · exact .inl ⟨by omega, h⟩
          · exact .inr ⟨h, h'', fun _ => h'⟩
        · rintro (⟨_, h⟩ | ⟨h, h', h''⟩)
          · exact .inl h
          · exact .inr ⟨⟨h, h'' h2, h'⟩, h'⟩
      · rw [if_neg h4, mem_rst]
        constructor
        · rintro ⟨h, h', h''⟩
          exact .inr ⟨h, h'', fun _ => h'⟩
        · rintro (⟨h, _⟩ | ⟨h, h', h''⟩)
          · omega
          · exact ⟨h, h'' h2, h'⟩
theorem kind_of {e : Ent} (h : rE e = true) : 1 ≤ e.2.1 ∧ e.2.1 ≤ 4 := by
  obtain ⟨_, h2, h3, _⟩ := rightE_parts h
  exact ⟨h2, h3⟩
/-- What is there behind a layer: what its entries show, and what was there that none of them names, or hides. -/
theorem mem_over {l t : List Ent} (hr : ∀ e ∈ l, rE e = true) (hA : Asc l) {x : Ent} : x ∈ over t l ↔ (∃ e ∈ l, e.2.1 ≠ 3 ∧ x = sh e) ∨ (x ∈ t ∧ ∀ e ∈ l, pl x ≠ pl e ∧ (e.2.1 ≠ 2 → und (pl x) (pl e) = false)) := by
  have key : ∀ k (m : List Ent), m.length = k → (∀ e ∈ m, rE e = true) → Asc m → (x ∈ over t m ↔ (∃ e ∈ m, e.2.1 ≠ 3 ∧ x = sh e) ∨ (x ∈ t ∧ ∀ e ∈ m, pl x ≠ pl e ∧ (e.2.1 ≠ 2 → und (pl x) (pl e) = false))) := by
    intro k
    induction k with
    | zero =>
      intro m hm _ _
      rw [List.length_eq_zero_iff.1 hm]
      simp [over]
    | succ k ih =>
      intro m hm hr hA
      rcases List.eq_nil_or_concat m with rfl | ⟨r, b, rfl⟩
      · simp at hm
      · rw [List.concat_eq_append] at *
        have hrb := hr b (by simp)
        obtain ⟨hA1, hA2⟩ := asc_snoc.1 hA
        have ih := ih r (by simpa using hm) (fun e he => hr e (by simp [he])) hA1
        rw [over_snoc, mem_over1 (kind_of hrb), ih]
        constructor
        · rintro (⟨h1, h2⟩ | ⟨h1 | ⟨h1, h2⟩, h3, h4⟩)
          · exact .inl ⟨b, by simp, h1, h2⟩
          · obtain ⟨e, he, h5⟩ := h1
            exact .inl ⟨e, by simp [he], h5⟩
          · refine .inr ⟨h1, fun e he => ?_⟩
            rcases List.mem_append.1 he with he | he
            · exact h2 e he
            · obtain rfl : e = b := by simpa using he
              exact ⟨h3, h4⟩
        · rintro (⟨e, he, h1, h2⟩ | ⟨h1, h2⟩)
          · rcases List.mem_append.1 he with he | he
            · refine .inr ⟨.inl ⟨e, he, h1, h2⟩, ?_, fun _ => ?_⟩
              · rw [h2, pl_sh]
                exact lt8_ne (hA2 e he)
              · rw [h2, pl_sh]
                cases hu : und (pl e) (pl b) with
                | false => rfl
                | true =>
                  have := lt8_trans (und_lt hu) (hA2 e he)
                  rw [lt8_irr] at this
                  cases this
            · obtain rfl : e = b := by simpa using he
              exact .inl ⟨h1, h2⟩
          · exact .inr ⟨.inr ⟨h1, fun e he => h2 e (by simp [he])⟩, h2 b (by simp)⟩
  exact key _ l rfl hr hA
theorem sh_tree {e : Ent} (h : rE e = true) (h2 : e.2.1 ≤ 2) : sh e = e := by
  unfold sh
  split
  · rfl
  · have := kind_of h
    exact (dir_eq h (by omega)).symm
theorem sh_right {e : Ent} (h : rE e = true) : rE (sh e) = true ∧ (sh e).2.1 ≤ 2 := by
  unfold sh
  split
  · rename_i h1
    exact ⟨h, by omega⟩
  · refine ⟨rightE_of (rightE_parts h).1 (.inr ⟨⟨show (2 : Int) ≤ 2 by decide, show (2 : Int) ≤ 4 by decide⟩, rfl⟩), show (2 : Int) ≤ 2 by decide⟩
theorem sh_hd {e : Ent} (h : rE e = true) (h3 : e.2.1 ≠ 3) : hd e = hd (sh e) := by
  have := kind_of h
  unfold hd sh
  split
  · rfl
  · rename_i h1
    have : e.2.1 = 2 ∨ e.2.1 = 4 := by omega
    rcases this with h | h <;> rw [h] <;> rfl
/-- What comes is a tree. -/
theorem tr_over {t l : List Ent} (ht : TR t) (hl : RL l) : TR (over t l) := by
  obtain ⟨⟨t1, t2, t3⟩, t4⟩ := ht
  obtain ⟨l1, l2, l3⟩ := hl
  have hm : ∀ x, x ∈ over t l ↔ _ := fun x => mem_over (t := t) l1 l2 (x := x)
  refine ⟨⟨fun x hx => ?_, asc_over t2, fun x hx => ?_⟩, fun x hx => ?_⟩
  · rcases (hm x).1 hx with ⟨e, he, _, rfl⟩ | ⟨h1, _⟩
    · exact (sh_right (l1 e he)).1
    · exact t1 x h1
  · rcases (hm x).1 hx with ⟨e, he, _, rfl⟩ | ⟨h1, h2⟩
    · unfold inD
      rw [pl_sh]
      refine (l3 e he).imp_right ?_
      rintro ⟨d, hd1, hd2, hd3⟩
      have hd9 : d.2.1 ≠ 3 := fun h9 => by unfold hd at hd3; rw [h9] at hd3; cases hd3
      exact ⟨sh d, (hm _).2 (.inl ⟨d, hd1, hd9, rfl⟩), by rw [pl_sh]; exact hd2, by rw [← sh_hd (l1 d hd1) hd9]; exact hd3⟩
    · refine (t3 x h1).imp_right ?_
      rintro ⟨d, hd1, hd2, hd3⟩
      obtain ⟨p1, p2⟩ := rE_isP (t1 x h1)
      by_cases hn : ∃ e ∈ l, pl d = pl e
      · obtain ⟨e, he, hde⟩ := hn
        have hux : und (pl x) (pl e) = true := by rw [und_par9 p1 p2, ← hd2, hde, decide_eq_true rfl, Bool.true_or]
        have hk2 : e.2.1 = 2 := by
          by_cases h2' : e.2.1 = 2
          · exact h2'
          · have := (h2 e he).2 h2'
            rw [hux] at this
            cases this
        refine ⟨sh e, (hm _).2 (.inl ⟨e, he, by omega, rfl⟩), by rw [pl_sh, ← hde]; exact hd2, ?_⟩
        rw [← sh_hd (l1 e he) (by omega)]
        unfold hd
        rw [hk2]
        rfl
      · refine ⟨d, (hm _).2 (.inr ⟨hd1, fun e he => ⟨fun h9 => hn ⟨e, he, h9⟩, fun h2' => ?_⟩⟩), hd2, hd3⟩
        cases hu : und (pl d) (pl e) with
        | false => rfl
        | true =>
          have := (h2 e he).2 h2'
          rw [und_par9 p1 p2, ← hd2, hu, Bool.or_true] at this
          cases this
  · rcases (hm x).1 hx with ⟨e, he, _, rfl⟩ | ⟨h1, _⟩
    · exact (sh_right (l1 e he)).2
    · exact t4 x h1
/-- A layer laid over twice is as laid over once. -/
theorem over_twice {t l : List Ent} (ht : Asc t) (hr : ∀ e ∈ l, rE e = true) (hA : Asc l) : over (over t l) l = over t l := by
  refine asc_ext (asc_over (asc_over ht)) (asc_over ht) fun x => ?_
  rw [mem_over hr hA, mem_over hr hA]
  constructor
  · rintro (h | ⟨h | h, h'⟩)
    · exact .inl h
    · exact .inl h
    · exact .inr h
  · rintro (h | h)
    · exact .inl h
    · exact .inr ⟨.inr h, h.2⟩
/-- A tree, laid over nothing, is itself. -/
theorem over_nil {t : List Ent} (h : TR t) : over [] t = t := by
  refine asc_ext (asc_over List.Pairwise.nil) h.1.2.1 fun x => ?_
  rw [mem_over h.1.1 h.1.2.1]
  constructor
  · rintro (⟨e, he, _, rfl⟩ | ⟨h1, _⟩)
    · rw [sh_tree (h.1.1 e he) (h.2 e he)]
      exact he
    · cases h1
  · intro hx
    exact .inl ⟨x, hx, by have := h.2 x hx; omega, (sh_tree (h.1.1 x hx) (h.2 x hx)).symm⟩
/-- A whiteout alone. -/
theorem over_white (t : List Ent) (p : ByteArray) (d : ByteArray) : over t [(p, 3, d)] = rst t p.data.toList := rfl
theorem over_empty (t : List Ent) : over t [] = t := rfl
/-- What none of a layer's entries names, or lies above, stays. -/
theorem over_keeps {t l : List Ent} (hr : ∀ e ∈ l, rE e = true) (hA : Asc l) {x : Ent} (hx : x ∈ t) (h : ∀ e ∈ l, pl x ≠ pl e ∧ und (pl x) (pl e) = false) : x ∈ over t l := (mem_over hr hA).2 (.inr ⟨hx, fun e he => ⟨(h e he).1, fun _ => (h e he).2⟩⟩)
theorem wth_le (l : List Ent) (e : Ent) : (wth l e).length ≤ l.length + 1 := by
  have key : ∀ m : List Ent, (m.filter (fun a => lt8 (pl a) (pl e))).length + (m.filter (fun a => lt8 (pl e) (pl a))).length ≤ m.length := by
    intro m
    induction m with
    | nil => simp
    | cons x r ih =>
      rw [List.filter_cons, List.filter_cons]
      cases h1 : lt8 (pl x) (pl e) with
      | true =>
        rw [lt8_asymm h1]
        simp
        omega
      | false => cases lt8 (pl e) (pl x) <;> simp <;> omega
  have := key l
  unfold wth
  rw [List.length_append, List.length_cons]
  omega
theorem over1_len (t : List Ent) (e : Ent) : (over1 t e).length ≤ t.length + 1 := by
  have h1 := wth_le t (dE e.1)
  have h2 := wth_le (rst t (pl e)) e
  have h3 := wth_le (rst t (pl e)) (dE e.1)
  have h4 := len_rst t (pl e)
  unfold over1
  split
  · omega
  · split
    · omega
    · split <;> omega
theorem over_len : ∀ (l t : List Ent), (over t l).length ≤ t.length + l.length
  | [], t => by simp [over]
  | e :: r, t => by
    have h1 := over1_len t e
    have h2 := over_len r (over1 t e)
    show (over (over1 t e) r).length ≤ _
    rw [List.length_cons]
    omega
/-- What a stack shows. -/
def stk (s : List (List Ent)) : List Ent := s.foldl over []
theorem stk_snoc (s : List (List Ent)) (l : List Ent) : stk (s ++ [l]) = over (stk s) l := by unfold stk; rw [List.foldl_append]; rfl
theorem tr_nil : TR [] := ⟨rl_nil, by simp⟩
theorem tr_stk {s : List (List Ent)} (h : ∀ l ∈ s, RightL l) : TR (stk s) := by
  have key : ∀ (s : List (List Ent)) (t : List Ent), TR t → (∀ l ∈ s, RightL l) → TR (s.foldl over t) := by
    intro s
    induction s with
    | nil => intro t ht _; exact ht
    | cons l r ih => intro t ht h; exact ih _ (tr_over ht (h l (by simp)).2) fun m hm => h m (by simp [hm])
  exact key s [] tr_nil h
theorem stk_len {s : List (List Ent)} (h : ∀ l ∈ s, RightL l) : (stk s).length ≤ 64 * s.length := by
  have key : ∀ (s : List (List Ent)) (t : List Ent), (∀ l ∈ s, RightL l) → (s.foldl over t).length ≤ t.length + 64 * s.length := by
    intro s
    induction s with
    | nil => intro t _; simp
    | cons l r ih =>
      intro t h
      have h1 := ih (over t l) fun m hm => h m (by simp [hm])
      have h2 := over_len l t
      have h3 := (h l (by simp)).1
      rw [List.foldl_cons, List.length_cons]
      omega
  have := key s [] h
  rw [List.length_nil, Nat.zero_add] at this
  exact this
theorem stk_insert (a b : List (List Ent)) : stk (a ++ [] :: b) = stk (a ++ b) := by
  unfold stk
  rw [List.foldl_append, List.foldl_append]
  rfl
theorem par9_isP {p : List UInt8} (h : isP p) (h1 : p ≠ [47]) : isP (par9 p) ∧ (par9 p).length < p.length := by
  obtain ⟨ms, x, a1, _, _, _, a5⟩ := par9_parts h h1
  refine ⟨by rw [a5]; exact isP_pth a1, ?_⟩
  have h2 := und_par9 (q := par9 p) h h1
  rw [decide_eq_true rfl, Bool.true_or] at h2
  exact (und_longer h2).2
end Go.Proofs.YtgpipljhpkhffaaDoor

namespace Go.Proofs.YtgpipljhpkhffaaDoor
open Go.RowKit

/-- What lies at a path: the error, the kind. -/
def kdV (t : List Ent) (p : List UInt8) : Int × Int :=
  if ¬ isP p then (2, 0) else if p = [47] then (0, 2) else match fnd t p with
    | none => (3, 0)
    | some e => (0, e.2.1)
/-- Why nothing can be put at a path; 0: it can. -/
def plcV (t : List Ent) (p : List UInt8) : Int :=
  if ¬ isP p then 2 else if p = [47] then 1 else if (kdV t (par9 p)).1 ≠ 0 then (kdV t (par9 p)).1 else if (kdV t (par9 p)).2 ≠ 2 then 6 else if (fnd t p).isSome = true then 4 else 0
/-- Why there is no file at a path; 0: there is. -/
def flV (t : List Ent) (p : List UInt8) : Int :=
  if ¬ isP p then 2 else if p = [47] then 1 else match fnd t p with
    | none => 3
    | some e => if e.2.1 = 2 then 5 else 0
/-- The data at a path. -/
def datV (t : List Ent) (p : List UInt8) : ByteArray := match fnd t p with
  | none => ⟨#[]⟩
  | some e => e.2.2
/-- Read: the error, the data. -/
def rdV (t : List Ent) (p : List UInt8) : Int × ByteArray :=
  if (kdV t p).1 ≠ 0 then ((kdV t p).1, ⟨#[]⟩) else if (kdV t p).2 = 2 then (5, ⟨#[]⟩) else (0, datV t p)
/-- A tree that is put together: too great, or it. -/
def upTo (t : List Ent) : Int × List Ent := if 1024 < t.length then (9, []) else (0, t)
/-- Create, Mkdir. -/
def mkV (t : List Ent) (p : ByteArray) (k : Int) : Int × List Ent := if plcV t p.data.toList ≠ 0 then (plcV t p.data.toList, []) else upTo (wth t (p, k, ⟨#[]⟩))
/-- Bytes, so many, zeros behind. -/
def padL (s : List UInt8) (n : Nat) : List UInt8 := (s ++ List.replicate (n - s.length) 0).take n
/-- Data with a text from a place on. -/
def wrtL (s : List UInt8) (n : Nat) (x : List UInt8) : List UInt8 := padL s n ++ x ++ s.drop (n + x.length)
/-- Write. -/
def wrV (t : List Ent) (p : ByteArray) (n : Int) (s : ByteArray) : Int × List Ent :=
  if flV t p.data.toList ≠ 0 then (flV t p.data.toList, []) else if n < 0 ∨ 256 < n + s.size then (15, []) else (0, wth t (p, 1, ⟨(wrtL (datV t p.data.toList).data.toList n.toNat s.data.toList).toArray⟩))
/-- Cut. -/
def ctV (t : List Ent) (p : ByteArray) (n : Int) : Int × List Ent :=
  if flV t p.data.toList ≠ 0 then (flV t p.data.toList, []) else if n < 0 ∨ 256 < n then (15, []) else (0, wth t (p, 1, ⟨(padL (datV t p.data.toList).data.toList n.toNat).toArray⟩))
/-- Unlink. -/
def ulV (t : List Ent) (p : List UInt8) : Int × List Ent := if flV t p ≠ 0 then (flV t p, []) else (0, wout t p)
/-- Rmdir. -/
def rmV (t : List Ent) (p : List UInt8) : Int × List Ent :=
  if ¬ isP p then (2, []) else if p = [47] then (1, []) else match fnd t p with
    | none => (3, [])
    | some e => if e.2.1 ≠ 2 then (6, []) else if (t.any fun x => und (pl x) p) = true then (7, []) else (0, wout t p)
/-- Rename. -/
def rnV (t : List Ent) (p q : ByteArray) : Int × List Ent :=
  if flV t p.data.toList ≠ 0 then (flV t p.data.toList, []) else if plcV t q.data.toList ≠ 0 then (plcV t q.data.toList, []) else (0, wth (wout t p.data.toList) (q, 1, datV t p.data.toList))

/-- With an entry whose directory is there, and which takes no directory's place but as one. -/
theorem tr_wth {t : List Ent} {e : Ent} (ht : TR t) (he : rE e = true) (h2 : e.2.1 ≤ 2) (hin : inD t e) (hx : ∀ x ∈ t, pl x = pl e → hd x = true → hd e = true) : TR (wth t e) := by
  obtain ⟨⟨t1, t2, t3⟩, t4⟩ := ht
  have up : ∀ x : Ent, inD t x → inD (wth t e) x := fun x h => by
    refine h.imp_right ?_
    rintro ⟨d, hd1, hd2, hd3⟩
    by_cases hp : pl d = pl e
    · exact ⟨e, mem_wth.2 (.inl rfl), hp ▸ hd2, hx d hd1 hp hd3⟩
    · exact ⟨d, mem_wth.2 (.inr ⟨hd1, hp⟩), hd2, hd3⟩
  refine ⟨⟨fun x hx => ?_, asc_wth t2 e, fun x hx => ?_⟩, fun x hx => ?_⟩
  · rcases mem_wth.1 hx with rfl | ⟨h, _⟩
    · exact he
    · exact t1 x h
  · rcases mem_wth.1 hx with rfl | ⟨h, _⟩
    · exact up _ hin
    · exact up x (t3 x h)
  · rcases mem_wth.1 hx with rfl | ⟨h, _⟩
    · exact h2
    · exact t4 x h
/-- Where an entry lies under a path, a directory lies at that path. -/
theorem tr_above {t : List Ent} (ht : TR t) {p : List UInt8} (hp : p ≠ [47]) : ∀ n, ∀ x ∈ t, (pl x).length = n → und (pl x) p = true → ∃ d ∈ t, pl d = p ∧ hd d = true := by
  intro n
  induction n using Nat.strongRecOn with
  | _ n ih =>
    intro x hx hn hu
    obtain ⟨p1, p2⟩ := rE_isP (ht.1.1 x hx)
    rw [und_par9 p1 p2, Bool.or_eq_true, decide_eq_true_iff] at hu
    rcases ht.1.2.2 x hx with h | ⟨d, hd1, hd2, hd3⟩
    · rw [h] at hu
      rcases hu with hu | hu
      · exact absurd hu hp
      · obtain ⟨_, h2⟩ := und_longer hu
        have h3 : isP p := by
          unfold und at hu
          exact (of_decide_eq_true hu).2.1
        have h4 := h3.1
        cases p with
        | nil => simp at h4
        | cons c r => simp at h2
    · rcases hu with hu | hu
      · exact ⟨d, hd1, hd2.trans hu.symm, hd3⟩
      · rw [← hd2] at hu
        have h1 := par9_lt p1 p2
        have h2 := und_par9 (q := par9 (pl x)) p1 p2
        rw [decide_eq_true rfl, Bool.true_or] at h2
        have h3 := (und_longer h2).2
        rw [← hd2] at h3
        exact ih _ (by omega) d hd1 rfl hu
theorem tr_under_file {t : List Ent} (ht : TR t) {p : List UInt8} (hp : p ≠ [47]) (hf : ∀ d ∈ t, pl d = p → hd d = false) : ∀ x ∈ t, und (pl x) p = false := fun x hx => by
  cases hu : und (pl x) p with
  | false => rfl
  | true =>
    obtain ⟨d, h1, h2, h3⟩ := tr_above ht hp _ x hx rfl hu
    rw [hf d h1 h2] at h3
    cases h3
/-- Without an entry under which nothing lies. -/
theorem tr_wout {t : List Ent} (ht : TR t) {p : List UInt8} (hu : ∀ x ∈ t, und (pl x) p = false) : TR (wout t p) := by
  obtain ⟨⟨t1, t2, t3⟩, t4⟩ := ht
  have hm : ∀ x, x ∈ wout t p ↔ x ∈ t ∧ pl x ≠ p := fun x => by unfold wout; rw [List.mem_filter, decide_eq_true_iff]
  refine ⟨⟨fun x hx => t1 x ((hm x).1 hx).1, t2.filter _, fun x hx => ?_⟩, fun x hx => t4 x ((hm x).1 hx).1⟩
  have hx := ((hm x).1 hx).1
  refine (t3 x hx).imp_right ?_
  rintro ⟨d, hd1, hd2, hd3⟩
  refine ⟨d, (hm d).2 ⟨hd1, fun e => ?_⟩, hd2, hd3⟩
  obtain ⟨p1, p2⟩ := rE_isP (t1 x hx)
  have h1 := hu x hx
  rw [und_par9 p1 p2, ← hd2, e, decide_eq_true rfl, Bool.true_or] at h1
  cases h1
theorem wout_none {t : List Ent} {p : List UInt8} (h : fnd t p = none) : wout t p = t := by
  unfold wout
  exact List.filter_eq_self.2 fun e he => by simpa using fnd_none.1 h e he
theorem mem_wout {t : List Ent} {p : List UInt8} {x : Ent} : x ∈ wout t p ↔ x ∈ t ∧ pl x ≠ p := by unfold wout; rw [List.mem_filter, decide_eq_true_iff]
theorem asc_wout {t : List Ent} (h : Asc t) (p : List UInt8) : Asc (wout t p) := h.filter _
theorem wout_wth {t : List Ent} (h : Asc t) (e : Ent) : wout (wth t e) (pl e) = wout t (pl e) := by
  refine asc_ext (asc_wout (asc_wth h e) _) (asc_wout h _) fun x => ?_
  rw [mem_wout, mem_wout, mem_wth]
  constructor
  · rintro ⟨rfl | ⟨h1, _⟩, h2⟩
    · exact absurd rfl h2
    · exact ⟨h1, h2⟩
  · rintro ⟨h1, h2⟩
    exact ⟨.inr ⟨h1, h2⟩, h2⟩
theorem wth_wth {t : List Ent} (h : Asc t) {e f : Ent} (hp : pl f = pl e) : wth (wth t e) f = wth t f := by
  refine asc_ext (asc_wth (asc_wth h e) f) (asc_wth h f) fun x => ?_
  rw [mem_wth, mem_wth, mem_wth]
  constructor
  · rintro (h1 | ⟨h1 | h1, h2⟩)
    · exact .inl h1
    · exact absurd (h1 ▸ hp.symm) h2
    · exact .inr ⟨h1.1, h2⟩
  · rintro (h1 | ⟨h1, h2⟩)
    · exact .inl h1
    · exact .inr ⟨.inr ⟨h1, fun e0 => h2 (e0.trans hp.symm)⟩, h2⟩
theorem wth_wout {t : List Ent} (h : Asc t) (e : Ent) : wth (wout t (pl e)) e = wth t e := by
  refine asc_ext (asc_wth (asc_wout h _) e) (asc_wth h e) fun x => ?_
  rw [mem_wth, mem_wth, mem_wout]
  constructor
  · rintro (h1 | ⟨⟨h1, _⟩, h2⟩)
    · exact .inl h1
    · exact .inr ⟨h1, h2⟩
  · rintro (h1 | ⟨h1, h2⟩)
    · exact .inl h1
    · exact .inr ⟨⟨h1, h2⟩, h2⟩
theorem len_wth {t : List Ent} (h : Asc t) {e x : Ent} (hx : fnd t (pl e) = some x) : (wth t e).length = t.length := by
  have h1 := len_wout h hx
  have h2 := wth_le (wout t (pl e)) e
  have h3 := len_wout (asc_wth h e) (p := pl e) (e := e) ((fnd_some (asc_wth h e)).2 ⟨mem_wth.2 (.inl rfl), rfl⟩)
  rw [wout_wth h] at h3
  omega
/-- A path's directory: what plcV asks. -/
theorem plcV_ok {t : List Ent} (ht : Asc t) {p : List UInt8} (h : plcV t p = 0) : isP p ∧ p ≠ [47] ∧ (par9 p = [47] ∨ ∃ d ∈ t, pl d = par9 p ∧ d.2.1 = 2) ∧ fnd t p = none := by
  unfold plcV at h
  by_cases h1 : isP p
  · rw [if_neg (not_not_intro h1)] at h
    by_cases h2 : p = [47]
    · rw [if_pos h2] at h; omega
    · rw [if_neg h2] at h
      by_cases h3 : (kdV t (par9 p)).1 ≠ 0
      · rw [if_pos h3] at h; omega
      · rw [if_neg h3] at h
        by_cases h4 : (kdV t (par9 p)).2 ≠ 2
        · rw [if_pos h4] at h; omega
        · rw [if_neg h4] at h
          by_cases h5 : (fnd t p).isSome = true
          · rw [if_pos h5] at h; omega
          · refine ⟨h1, h2, ?_, by simpa using h5⟩
            by_cases h6 : par9 p = [47]
            · exact .inl h6
            · right
              have h7 : isP (par9 p) := by
                obtain ⟨ms, x, a1, _, _, _, a5⟩ := par9_parts h1 h2
                rw [a5]
                exact isP_pth a1
              unfold kdV at h3 h4
              rw [if_neg (not_not_intro h7), if_neg h6] at h3 h4
              cases hf : fnd t (par9 p) with
              | none => rw [hf] at h3; simp at h3
              | some d =>
                rw [hf] at h4
                obtain ⟨h8, h9⟩ := (fnd_some ht).1 hf
                exact ⟨d, h8, h9, by simpa using h4⟩
  · rw [if_pos h1] at h; omega
theorem hd_two {d : Ent} (h : d.2.1 = 2) : hd d = true := by unfold hd; rw [h]; rfl
theorem hd_tree {t : List Ent} (ht : TR t) {d : Ent} (hd1 : d ∈ t) : hd d = true ↔ d.2.1 = 2 := by
  have := ht.2 d hd1
  unfold hd
  rw [Bool.or_eq_true, beq_iff_eq, beq_iff_eq]
  omega
theorem plcV_in {t : List Ent} (ht : Asc t) {p : List UInt8} (h : plcV t p = 0) {e : Ent} (he : pl e = p) : inD t e := by
  obtain ⟨_, _, h3, _⟩ := plcV_ok ht h
  unfold inD
  rw [he]
  exact h3.imp_right fun ⟨d, h4, h5, h6⟩ => ⟨d, h4, h5, hd_two h6⟩
/-- Where nothing stands in the way. -/
theorem plcV_zero {t : List Ent} (ht : Asc t) {p : List UInt8} (h1 : isP p) (h2 : p ≠ [47]) (h3 : par9 p = [47] ∨ ∃ d ∈ t, pl d = par9 p ∧ d.2.1 = 2) (h4 : fnd t p = none) : plcV t p = 0 := by
  unfold plcV
  rw [if_neg (not_not_intro h1), if_neg h2]
  have h7 : isP (par9 p) := by
    obtain ⟨ms, x, a1, _, _, _, a5⟩ := par9_parts h1 h2
    rw [a5]
    exact isP_pth a1
  have h5 : kdV t (par9 p) = (0, 2) := by
    unfold kdV
    rw [if_neg (not_not_intro h7)]
    by_cases h6 : par9 p = [47]
    · rw [if_pos h6]
    · rw [if_neg h6]
      rcases h3 with h3 | ⟨d, h8, h9, h10⟩
      · exact absurd h3 h6
      · rw [(fnd_some ht).2 ⟨h8, h9⟩]
        simp [h10]
  rw [h5, h4]
  simp
theorem flV_ok {t : List Ent} (ht : TR t) {p : List UInt8} (h : flV t p = 0) : isP p ∧ p ≠ [47] ∧ ∃ e ∈ t, pl e = p ∧ e.2.1 = 1 ∧ fnd t p = some e ∧ datV t p = e.2.2 := by
  unfold flV at h
  by_cases h1 : isP p
  · rw [if_neg (not_not_intro h1)] at h
    by_cases h2 : p = [47]
    · rw [if_pos h2] at h; omega
    · rw [if_neg h2] at h
      cases hf : fnd t p with
      | none => rw [hf] at h; simp at h
      | some e =>
        rw [hf] at h
        obtain ⟨h8, h9⟩ := (fnd_some ht.1.2.1).1 hf
        have hk := kind_of (ht.1.1 e h8)
        have h2' := ht.2 e h8
        refine ⟨h1, h2, e, h8, h9, ?_, rfl, by unfold datV; rw [hf]⟩
        by_cases h5 : e.2.1 = 2
        · simp [h5] at h
        · omega
  · rw [if_pos h1] at h; omega
theorem flV_zero {t : List Ent} (ht : Asc t) {p : List UInt8} {e : Ent} (h1 : isP p) (h2 : p ≠ [47]) (he : e ∈ t) (hp : pl e = p) (hk : e.2.1 = 1) : flV t p = 0 ∧ datV t p = e.2.2 ∧ kdV t p = (0, 1) ∧ rdV t p = (0, e.2.2) := by
  have hf := (fnd_some ht).2 ⟨he, hp⟩
  have hd : datV t p = e.2.2 := by unfold datV; rw [hf]
  have hkd : kdV t p = (0, 1) := by unfold kdV; rw [if_neg (not_not_intro h1), if_neg h2, hf]; simp [hk]
  refine ⟨?_, hd, hkd, ?_⟩
  · unfold flV
    rw [if_neg (not_not_intro h1), if_neg h2, hf]
    simp [hk]
  · unfold rdV
    rw [hkd, hd]
    simp
/-- A right file. -/
theorem rE_file {p s : ByteArray} (h1 : isP p.data.toList) (h2 : p.data.toList ≠ [47]) (hs : s.size ≤ 256) : rE (p, 1, s) = true := by
  refine rightE_of ?_ (.inl ⟨rfl, hs⟩)
  rw [dp_pos h1]
  have : pcs p.data.toList ≠ [] := fun e => h2 ((pcs_nil h1).1 e)
  have := List.length_pos_iff.2 this
  omega
theorem rE_dir {p : ByteArray} (h1 : isP p.data.toList) (h2 : p.data.toList ≠ [47]) : rE (p, 2, ⟨#[]⟩) = true := by
  refine rightE_of ?_ (.inr ⟨⟨(show (2 : Int) ≤ 2 by decide), (show (2 : Int) ≤ 4 by decide)⟩, rfl⟩)
  rw [dp_pos h1]
  have : pcs p.data.toList ≠ [] := fun e => h2 ((pcs_nil h1).1 e)
  have := List.length_pos_iff.2 this
  omega
end Go.Proofs.YtgpipljhpkhffaaDoor

namespace Go.Proofs.YtgpipljhpkhffaaDoor
open Go.RowKit

/-- Something that is done: which, two paths, a number, a text. -/
abbrev Op11 := Int × ByteArray × ByteArray × Int × ByteArray
def doV (t : List Ent) (o : Op11) : Int × List Ent :=
  if o.1 = 0 then mkV t o.2.1 1 else if o.1 = 1 then mkV t o.2.1 2 else if o.1 = 2 then wrV t o.2.1 o.2.2.2.1 o.2.2.2.2 else if o.1 = 3 then ctV t o.2.1 o.2.2.2.1 else if o.1 = 4 then ulV t o.2.1.data.toList else if o.1 = 5 then rmV t o.2.1.data.toList else rnV t o.2.1 o.2.2.1
/-- What comes is a tree, one entry greater at most; what is refused answers none. -/
def Stays (t : List Ent) (r : Int × List Ent) : Prop := (r.1 ≠ 0 ∧ r.2 = []) ∨ (r.1 = 0 ∧ TreeL r.2 ∧ r.2.length ≤ t.length + 1)
theorem stays_no {t : List Ent} {n : Int} (h : n ≠ 0) : Stays t (n, []) := .inl ⟨h, rfl⟩
theorem padL_len (s : List UInt8) (n : Nat) : (padL s n).length = n := by
  unfold padL
  rw [List.length_take, List.length_append, List.length_replicate]
  omega
theorem wrtL_len (s : List UInt8) (n : Nat) (x : List UInt8) : (wrtL s n x).length = max (n + x.length) s.length := by
  unfold wrtL
  rw [List.length_append, List.length_append, padL_len, List.length_drop]
  omega
theorem size_mk (l : List UInt8) : (⟨l.toArray⟩ : ByteArray).size = l.length := by rw [Lib.size_eq]
theorem inD_mem {t : List Ent} (ht : TR t) {e x : Ent} (hx : x ∈ t) (hp : pl x = pl e) : inD t e := by
  have := ht.1.2.2 x hx
  unfold inD at this ⊢
  rwa [hp] at this
/-- A file's data are changed. -/
theorem stays_file {t : List Ent} (ht : TreeL t) {p s : ByteArray} (hf : flV t p.data.toList = 0) (hs : s.size ≤ 256) : Stays t (0, wth t (p, 1, s)) := by
  obtain ⟨h1, h2, e, he, hp, hk, hfn, _⟩ := flV_ok ht.2 hf
  refine .inr ⟨rfl, ⟨?_, ?_⟩, ?_⟩
  · show (wth t (p, 1, s)).length ≤ 1024
    rw [len_wth ht.2.1.2.1 (e := (p, 1, s)) (x := e) hfn]
    exact ht.1
  · refine tr_wth ht.2 (rE_file h1 h2 hs) (show (1 : Int) ≤ 2 by decide) (inD_mem ht.2 he hp) fun x hx hxp hxd => ?_
    obtain rfl := asc_inj ht.2.1.2.1 hx he (hxp.trans hp.symm)
    rw [hd_tree ht.2 he, hk] at hxd
    omega
  · show (wth t (p, 1, s)).length ≤ t.length + 1
    rw [len_wth ht.2.1.2.1 (e := (p, 1, s)) (x := e) hfn]
    omega
theorem stays_mk {t : List Ent} (ht : TreeL t) (p : ByteArray) {k : Int} (hk : k = 1 ∨ k = 2) : Stays t (mkV t p k) := by
  unfold mkV
  by_cases h : plcV t p.data.toList = 0
  · rw [if_neg (not_not_intro h)]
    obtain ⟨h1, h2, _, h4⟩ := plcV_ok ht.2.1.2.1 h
    unfold upTo
    split
    · exact stays_no (by decide)
    · rename_i h9
      refine .inr ⟨rfl, ⟨by show (wth _ _).length ≤ 1024; omega, tr_wth ht.2 ?_ ?_ (plcV_in ht.2.1.2.1 h rfl) fun x hx hxp => absurd hxp (fnd_none.1 h4 x hx)⟩, wth_le _ _⟩
      · rcases hk with rfl | rfl
        · exact rE_file h1 h2 (by decide)
        · exact rE_dir h1 h2
      · show k ≤ 2
        omega
  · rw [if_pos h]
    exact stays_no h
theorem dat_size {t : List Ent} (ht : TreeL t) {p : List UInt8} (hf : flV t p = 0) : (datV t p).size ≤ 256 := by
  obtain ⟨_, _, e, he, _, _, _, hd⟩ := flV_ok ht.2 hf
  rw [hd]
  exact (rightE_parts (ht.2.1.1 e he)).2.2.2.1
theorem stays_wr {t : List Ent} (ht : TreeL t) (p : ByteArray) (n : Int) (s : ByteArray) : Stays t (wrV t p n s) := by
  unfold wrV
  by_cases h : flV t p.data.toList = 0
  · rw [if_neg (not_not_intro h)]
    split
    · exact stays_no (by decide)
    · rename_i h9
      refine stays_file ht h ?_
      rw [size_mk, wrtL_len]
      have := dat_size ht h
      rw [Lib.size_eq] at this
      rw [← Lib.size_eq]
      have : (datV t p.data.toList).data.toList.length ≤ 256 := this
      omega
  · rw [if_pos h]
    exact stays_no h
theorem stays_ct {t : List Ent} (ht : TreeL t) (p : ByteArray) (n : Int) : Stays t (ctV t p n) := by
  unfold ctV
  by_cases h : flV t p.data.toList = 0
  · rw [if_neg (not_not_intro h)]
    split
    · exact stays_no (by decide)
    · refine stays_file ht h ?_
      rw [size_mk, padL_len]
      omega
  · rw [if_pos h]
    exact stays_no h
theorem wout_le (t : List Ent) (p : List UInt8) : (wout t p).length ≤ t.length := List.length_filter_le _ _
theorem tr_woutF {t : List Ent} (ht : TR t) {p : List UInt8} (h : flV t p = 0) : TR (wout t p) := by
  obtain ⟨_, h2, e, he, hp, hk, _, _⟩ := flV_ok ht h
  refine tr_wout ht (tr_under_file ht h2 fun d hd1 hd2 => ?_)
  obtain rfl := asc_inj ht.1.2.1 hd1 he (hd2.trans hp.symm)
  cases hh : hd d with
  | false => rfl
  | true => rw [hd_tree ht he, hk] at hh; omega
theorem stays_ul {t : List Ent} (ht : TreeL t) (p : List UInt8) : Stays t (ulV t p) := by
  unfold ulV
  by_cases h : flV t p = 0
  · rw [if_neg (not_not_intro h)]
    have := wout_le t p
    exact .inr ⟨rfl, ⟨by have := ht.1; show (wout t p).length ≤ _; omega, tr_woutF ht.2 h⟩, by show (wout t p).length ≤ _; omega⟩
  · rw [if_pos h]
    exact stays_no h
theorem stays_rm {t : List Ent} (ht : TreeL t) (p : List UInt8) : Stays t (rmV t p) := by
  unfold rmV
  split
  · exact stays_no (by decide)
  · split
    · exact stays_no (by decide)
    · split
      · exact stays_no (by decide)
      · split
        · exact stays_no (by decide)
        · split
          · exact stays_no (by decide)
          · rename_i h
            have := wout_le t p
            refine .inr ⟨rfl, ⟨by have := ht.1; show (wout t p).length ≤ _; omega, tr_wout ht.2 fun x hx => ?_⟩, by show (wout t p).length ≤ _; omega⟩
            cases hu : und (pl x) p with
            | false => rfl
            | true => exact absurd (List.any_eq_true.2 ⟨x, hx, hu⟩) h
theorem stays_rn {t : List Ent} (ht : TreeL t) (p q : ByteArray) : Stays t (rnV t p q) := by
  unfold rnV
  by_cases h : flV t p.data.toList = 0
  · rw [if_neg (not_not_intro h)]
    by_cases h' : plcV t q.data.toList = 0
    · rw [if_neg (not_not_intro h')]
      obtain ⟨_, _, e, he, hp, hk, hfn, hd1⟩ := flV_ok ht.2 h
      obtain ⟨q1, q2, q3, q4⟩ := plcV_ok ht.2.1.2.1 h'
      have hl := len_wout ht.2.1.2.1 hfn
      have hw := wth_le (wout t p.data.toList) (q, 1, datV t p.data.toList)
      have hT := tr_woutF ht.2 h
      refine .inr ⟨rfl, ⟨by have := ht.1; show (wth _ _).length ≤ _; omega, tr_wth hT (rE_file q1 q2 (dat_size ht h)) (show (1 : Int) ≤ 2 by decide) ?_ fun x hx hxp => ?_⟩, by show (wth _ _).length ≤ _; omega⟩
      · unfold inD
        refine q3.imp_right ?_
        rintro ⟨d, d1, d2, d3⟩
        refine ⟨d, mem_wout.2 ⟨d1, fun e0 => ?_⟩, d2, hd_two d3⟩
        obtain rfl := asc_inj ht.2.1.2.1 d1 he (e0.trans hp.symm)
        omega
      · exact absurd hxp (fnd_none.1 q4 x (mem_wout.1 hx).1)
    · rw [if_pos h']
      exact stays_no h'
  · rw [if_pos h]
    exact stays_no h
theorem stays_do {t : List Ent} (ht : TreeL t) (o : Op11) : Stays t (doV t o) := by
  unfold doV
  split
  · exact stays_mk ht _ (.inl rfl)
  · split
    · exact stays_mk ht _ (.inr rfl)
    · split
      · exact stays_wr ht _ _ _
      · split
        · exact stays_ct ht _ _
        · split
          · exact stays_ul ht _
          · split
            · exact stays_rm ht _
            · exact stays_rn ht _ _
/-- A file that was made: it is read as empty; what is written to it is read; removed, the tree is as it was. -/
theorem made_file {t : List Ent} (ht : TreeL t) {p : ByteArray} (h : (mkV t p 1).1 = 0) : mkV t p 1 = (0, wth t (p, 1, ⟨#[]⟩)) ∧ plcV t p.data.toList = 0 ∧ TreeL (wth t (p, 1, ⟨#[]⟩)) := by
  have hs := stays_mk ht p (k := 1) (.inl rfl)
  unfold mkV at h hs ⊢
  by_cases hp : plcV t p.data.toList = 0
  · rw [if_neg (not_not_intro hp)] at h hs ⊢
    unfold upTo at h hs ⊢
    split at h
    · cases h
    · rename_i h9
      rw [if_neg h9] at hs ⊢
      rcases hs with ⟨h1, _⟩ | ⟨_, h2, _⟩
      · exact absurd rfl h1
      · exact ⟨rfl, hp, h2⟩
  · rw [if_pos hp] at h
    exact absurd h hp
theorem file_in {t : List Ent} (ht : TreeL t) {p : ByteArray} (hp : plcV t p.data.toList = 0) (s : ByteArray) : flV (wth t (p, 1, s)) p.data.toList = 0 ∧ datV (wth t (p, 1, s)) p.data.toList = s ∧ rdV (wth t (p, 1, s)) p.data.toList = (0, s) := by
  obtain ⟨h1, h2, _, _⟩ := plcV_ok ht.2.1.2.1 hp
  obtain ⟨a1, a2, _, a4⟩ := flV_zero (asc_wth ht.2.1.2.1 (p, 1, s)) (e := (p, 1, s)) h1 h2 (mem_wth.2 (.inl rfl)) rfl rfl
  exact ⟨a1, a2, a4⟩
theorem write_file {t : List Ent} (ht : TreeL t) {p : ByteArray} (hp : plcV t p.data.toList = 0) (n : Nat) (s : ByteArray) (h : n + s.size ≤ 256) : wrV (wth t (p, 1, ⟨#[]⟩)) p (n : Int) s = (0, wth t (p, 1, ⟨(padL [] n ++ s.data.toList).toArray⟩)) := by
  obtain ⟨h1, h2, _⟩ := file_in ht hp ⟨#[]⟩
  unfold wrV
  rw [if_neg (not_not_intro h1), if_neg (by omega), h2]
  refine Prod.ext rfl (Eq.trans (wth_wth ht.2.1.2.1 rfl) ?_)
  simp [wrtL]
theorem write_no {t : List Ent} (ht : TreeL t) {p : ByteArray} (hp : plcV t p.data.toList = 0) (n : Nat) (s : ByteArray) (h : ¬ n + s.size ≤ 256) : wrV (wth t (p, 1, ⟨#[]⟩)) p (n : Int) s = (15, []) := by
  obtain ⟨h1, _⟩ := file_in ht hp ⟨#[]⟩
  unfold wrV
  rw [if_neg (not_not_intro h1), if_pos (by omega)]
theorem unlink_file {t : List Ent} (ht : TreeL t) {p : ByteArray} (hp : plcV t p.data.toList = 0) (s : ByteArray) : ulV (wth t (p, 1, s)) p.data.toList = (0, t) := by
  obtain ⟨h1, _⟩ := file_in ht hp s
  obtain ⟨_, _, _, h4⟩ := plcV_ok ht.2.1.2.1 hp
  unfold ulV
  rw [if_neg (not_not_intro h1), show p.data.toList = pl ((p, 1, s) : Ent) from rfl, wout_wth ht.2.1.2.1, wout_none h4]
/-- A file that was given another path. -/
theorem renamed {t : List Ent} (ht : TreeL t) {p q : ByteArray} (h : (rnV t p q).1 = 0) : flV t p.data.toList = 0 ∧ plcV t q.data.toList = 0 ∧ rnV t p q = (0, wth (wout t p.data.toList) (q, 1, datV t p.data.toList)) ∧ TreeL (wth (wout t p.data.toList) (q, 1, datV t p.data.toList)) ∧ (wth (wout t p.data.toList) (q, 1, datV t p.data.toList)).length ≤ t.length + 1 := by
  have hs := stays_rn ht p q
  unfold rnV at h hs ⊢
  by_cases h1 : flV t p.data.toList = 0
  · rw [if_neg (not_not_intro h1)] at h hs ⊢
    by_cases h2 : plcV t q.data.toList = 0
    · rw [if_neg (not_not_intro h2)] at hs ⊢
      rcases hs with ⟨h3, _⟩ | ⟨_, h3, h4⟩
      · exact absurd rfl h3
      · exact ⟨h1, h2, rfl, h3, h4⟩
    · rw [if_pos h2] at h
      exact absurd h h2
  · rw [if_pos h1] at h
    exact absurd h h1
theorem renamed_ne {t : List Ent} (ht : TreeL t) {p q : ByteArray} (h1 : flV t p.data.toList = 0) (h2 : plcV t q.data.toList = 0) : p.data.toList ≠ q.data.toList := fun e => by
  obtain ⟨_, _, x, _, _, _, hf, _⟩ := flV_ok ht.2 h1
  obtain ⟨_, _, _, h4⟩ := plcV_ok ht.2.1.2.1 h2
  rw [e, h4] at hf
  cases hf
theorem renamed_read {t : List Ent} (ht : TreeL t) {p q : ByteArray} (h1 : flV t p.data.toList = 0) (h2 : plcV t q.data.toList = 0) : rdV (wth (wout t p.data.toList) (q, 1, datV t p.data.toList)) q.data.toList = (0, datV t p.data.toList) ∧ (rdV (wth (wout t p.data.toList) (q, 1, datV t p.data.toList)) p.data.toList).1 = 3 := by
  obtain ⟨q1, q2, _, _⟩ := plcV_ok ht.2.1.2.1 h2
  have hA := asc_wout ht.2.1.2.1 p.data.toList
  obtain ⟨_, _, _, a4⟩ := flV_zero (asc_wth hA (q, 1, datV t p.data.toList)) (e := (q, 1, datV t p.data.toList)) q1 q2 (mem_wth.2 (.inl rfl)) rfl rfl
  refine ⟨a4, ?_⟩
  obtain ⟨p1, p2, _⟩ := flV_ok ht.2 h1
  have hf : fnd (wth (wout t p.data.toList) (q, 1, datV t p.data.toList)) p.data.toList = none := by
    rw [fnd_wth hA, if_neg (renamed_ne ht h1 h2), fnd_wout]
  have hk : kdV (wth (wout t p.data.toList) (q, 1, datV t p.data.toList)) p.data.toList = (3, 0) := by
    unfold kdV
    rw [if_neg (not_not_intro p1), if_neg p2, hf]
  unfold rdV
  rw [hk]
  simp
/-- .. and its own again. -/
theorem renamed_back {t : List Ent} (ht : TreeL t) {p q : ByteArray} (h1 : flV t p.data.toList = 0) (h2 : plcV t q.data.toList = 0) : rnV (wth (wout t p.data.toList) (q, 1, datV t p.data.toList)) q p = (0, t) := by
  obtain ⟨q1, q2, _, q4⟩ := plcV_ok ht.2.1.2.1 h2
  obtain ⟨p1, p2, x, hx, hxp, hxk, _, hxd⟩ := flV_ok ht.2 h1
  have hne := renamed_ne ht h1 h2
  have hA := asc_wout ht.2.1.2.1 p.data.toList
  have hAZ := asc_wth hA (q, 1, datV t p.data.toList)
  obtain ⟨a1, a2, _, _⟩ := flV_zero hAZ (e := (q, 1, datV t p.data.toList)) q1 q2 (mem_wth.2 (.inl rfl)) rfl rfl
  have hz : plcV (wth (wout t p.data.toList) (q, 1, datV t p.data.toList)) p.data.toList = 0 := by
    refine plcV_zero hAZ p1 p2 ?_ (by rw [fnd_wth hA, if_neg hne, fnd_wout])
    rcases ht.2.1.2.2 x hx with h | ⟨d, d1, d2, d3⟩
    · left
      rw [← hxp]
      exact h
    · right
      rw [hxp] at d2
      refine ⟨d, mem_wth.2 (.inr ⟨mem_wout.2 ⟨d1, fun e => ?_⟩, fun e => ?_⟩), d2, (hd_tree ht.2 d1).1 d3⟩
      · have := par9_lt p1 p2
        rw [← d2, e, lt8_irr] at this
        cases this
      · exact fnd_none.1 q4 d d1 e
  unfold rnV
  rw [if_neg (not_not_intro a1), if_neg (not_not_intro hz), a2]
  have e1 : wout (wth (wout t p.data.toList) (q, 1, datV t p.data.toList)) q.data.toList = wout t p.data.toList := by
    rw [show q.data.toList = pl ((q, 1, datV t p.data.toList) : Ent) from rfl, wout_wth hA, wout_none]
    exact fnd_none.2 fun e he => fnd_none.1 q4 e (mem_wout.1 he).1
  have e2 : ((p, 1, datV t p.data.toList) : Ent) = x := by
    rw [hxd, ← hxk]
    have : p = x.1 := ba_ext hxp.symm
    rw [this]
  rw [e1, e2, ← hxp, wth_wout ht.2.1.2.1, wth_mem ht.2.1.2.1 hx]
/-- A directory that was made, and removed. -/
theorem made_dir {t : List Ent} (ht : TreeL t) {p : ByteArray} (h : (mkV t p 2).1 = 0) : mkV t p 2 = (0, wth t (p, 2, ⟨#[]⟩)) ∧ TreeL (wth t (p, 2, ⟨#[]⟩)) ∧ (wth t (p, 2, ⟨#[]⟩)).length ≤ t.length + 1 ∧ rmV (wth t (p, 2, ⟨#[]⟩)) p.data.toList = (0, t) := by
  have hs := stays_mk ht p (k := 2) (.inr rfl)
  unfold mkV at h hs ⊢
  by_cases hp : plcV t p.data.toList = 0
  · rw [if_neg (not_not_intro hp)] at h hs ⊢
    unfold upTo at h hs ⊢
    split at h
    · cases h
    · rename_i h9
      rw [if_neg h9] at hs ⊢
      rcases hs with ⟨h1, _⟩ | ⟨_, h2, h3⟩
      · exact absurd rfl h1
      · refine ⟨rfl, h2, h3, ?_⟩
        obtain ⟨p1, p2, _, p4⟩ := plcV_ok ht.2.1.2.1 hp
        unfold rmV
        rw [if_neg (not_not_intro p1), if_neg p2, fnd_wth ht.2.1.2.1, if_pos rfl]
        have hu : ((wth t (p, 2, ⟨#[]⟩)).any fun x => und (pl x) p.data.toList) = false := by
          rw [List.any_eq_false]
          intro x hx hux
          rcases mem_wth.1 hx with rfl | ⟨hx, _⟩
          · exact absurd (und_longer hux).2 (Nat.lt_irrefl _)
          · obtain ⟨d, d1, d2, _⟩ := tr_above ht.2 p2 _ x hx rfl hux
            exact fnd_none.1 p4 d d1 d2
        simp only [hu]
        rw [show p.data.toList = pl ((p, 2, ⟨#[]⟩) : Ent) from rfl, wout_wth ht.2.1.2.1, wout_none p4]
        simp
  · rw [if_pos hp] at h
    exact absurd h hp
/-- A file that is read. -/
theorem read_file {t : List Ent} {p : ByteArray} (h : (rdV t p.data.toList).1 = 0) : flV t p.data.toList = 0 ∧ rdV t p.data.toList = (0, datV t p.data.toList) := by
  unfold rdV kdV at h ⊢
  unfold flV
  by_cases p1 : isP p.data.toList
  · simp only [if_neg (not_not_intro p1)] at h ⊢
    by_cases p2 : p.data.toList = [47]
    · simp [p2] at h
    · simp only [if_neg p2] at h ⊢
      cases hf : fnd t p.data.toList with
      | none => rw [hf] at h; simp at h
      | some e =>
        rw [hf] at h
        by_cases h2 : e.2.1 = 2
        · simp [h2] at h
        · simp [h2]
  · simp [p1] at h
theorem cut_file {t : List Ent} (ht : TreeL t) {p : ByteArray} (h : flV t p.data.toList = 0) (n : Nat) (hn : n ≤ 256) : ctV t p (n : Int) = (0, wth t (p, 1, ⟨(padL (datV t p.data.toList).data.toList n).toArray⟩)) ∧ TreeL (wth t (p, 1, ⟨(padL (datV t p.data.toList).data.toList n).toArray⟩)) ∧ rdV (wth t (p, 1, ⟨(padL (datV t p.data.toList).data.toList n).toArray⟩)) p.data.toList = (0, ⟨(padL (datV t p.data.toList).data.toList n).toArray⟩) := by
  have e : ctV t p (n : Int) = (0, wth t (p, 1, ⟨(padL (datV t p.data.toList).data.toList n).toArray⟩)) := by
    unfold ctV
    rw [if_neg (not_not_intro h), if_neg (by omega)]
    rfl
  have hs := stays_ct ht p (n : Int)
  rw [e] at hs
  obtain ⟨p1, p2, _⟩ := flV_ok ht.2 h
  rcases hs with ⟨h1, _⟩ | ⟨_, h2, _⟩
  · exact absurd rfl h1
  · obtain ⟨_, _, _, a4⟩ := flV_zero (asc_wth ht.2.1.2.1 (p, 1, ⟨(padL (datV t p.data.toList).data.toList n).toArray⟩)) (e := (p, 1, ⟨(padL (datV t p.data.toList).data.toList n).toArray⟩)) p1 p2 (mem_wth.2 (.inl rfl)) rfl rfl
    exact ⟨e, h2, a4⟩
theorem padL_self (s : List UInt8) : padL s s.length = s := by unfold padL; simp
theorem cut_same {t : List Ent} (ht : TreeL t) {p : ByteArray} (h : flV t p.data.toList = 0) : ctV t p ((datV t p.data.toList).size : Int) = (0, t) := by
  obtain ⟨p1, p2, x, hx, hxp, hxk, _, hxd⟩ := flV_ok ht.2 h
  have hsz := dat_size ht h
  rw [(cut_file ht h (datV t p.data.toList).size hsz).1, Lib.size_eq, padL_self]
  have e2 : ((p, 1, ⟨(datV t p.data.toList).data.toList.toArray⟩) : Ent) = x := by
    rw [show (⟨(datV t p.data.toList).data.toList.toArray⟩ : ByteArray) = datV t p.data.toList from ba_ext (by simp), hxd, ← hxk]
    have : p = x.1 := ba_ext hxp.symm
    rw [this]
  rw [e2, wth_mem ht.2.1.2.1 hx]
theorem stays_tree {t y : List Ent} (h : Stays t (0, y)) : TreeL y ∧ y.length ≤ t.length + 1 := by
  rcases h with ⟨h1, _⟩ | ⟨_, h2, h3⟩
  · exact absurd rfl h1
  · exact ⟨h2, h3⟩
/-- What is written to a file that was made. -/
def newD (n : Nat) (s : ByteArray) : ByteArray := ⟨(padL [] n ++ s.data.toList).toArray⟩
theorem newD_size (n : Nat) (s : ByteArray) : (newD n s).size = n + s.size := by
  unfold newD
  rw [size_mk, List.length_append, padL_len, Lib.size_eq]
theorem newD_end (n : Nat) (s : ByteArray) : (newD n s).extract n (newD n s).size = s := by
  apply ba_ext
  rw [Lib.extract_data, newD_size]
  unfold newD
  rw [List.drop_append_of_le_length (by rw [padL_len]; omega), List.drop_of_length_le (by rw [padL_len]; omega), List.nil_append, List.take_of_length_le (by rw [← Lib.size_eq]; omega)]
/-- What a cut leaves. -/
def cutD (s : ByteArray) (n : Nat) : ByteArray := ⟨(padL s.data.toList n).toArray⟩
theorem cutD_size (s : ByteArray) (n : Nat) : (cutD s n).size = n := by
  unfold cutD
  rw [size_mk, padL_len]
theorem cutD_same (s : ByteArray) (n k : Nat) (h1 : k ≤ n) (h2 : k ≤ s.size) : (cutD s n).extract 0 k = s.extract 0 k := by
  apply ba_ext
  rw [Lib.extract_data, Lib.extract_data]
  unfold cutD padL
  rw [Lib.size_eq] at h2
  simp only [List.drop_zero, Nat.sub_zero]
  rw [List.take_take, Nat.min_eq_left h1, List.take_append_of_le_length h2]
theorem cutD_zero (s : ByteArray) (n i : Nat) (h1 : s.size ≤ i) (h2 : i < n) : (cutD s n).data.toList[i]? = some 0 := by
  unfold cutD padL
  rw [Lib.size_eq] at h1
  rw [List.getElem?_take_of_lt h2, List.getElem?_append_right h1, List.getElem?_replicate]
  rw [if_pos (by omega)]
end Go.Proofs.YtgpipljhpkhffaaDoor
