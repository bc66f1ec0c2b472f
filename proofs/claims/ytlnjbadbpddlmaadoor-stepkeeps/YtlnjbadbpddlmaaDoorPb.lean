/-
  A number's bytes: its digits of 7 bits, the lowest first; they are 1 to 9, no fewer of a greater number; of two numbers' bytes none are the beginning of the other's. No condition.
  An entry as a value, whether one is right, its bytes: by definition. No condition.
  Entries as bytes, told by lists: one's bytes begin no other one's; what a right entry's parts are. No condition.
  Layers as lists of entries: the order of paths, what a right layer is, one entry more at its end, an entry put and dropped, what lies under a path. No condition.
  A layer laid over a tree, told by lists: what is there then, entry by entry; what comes is a tree; twice is as once; a stack. No condition.
  What is done to a tree (chapter 11), told by lists: what each call answers; what comes is a tree; what is made and removed leaves it as it was. No condition.
  What lies at a path of a stack (chapter 12), told by lists: name by name, from the last layer down; it is what the folded stack has there; a directory's floor. No condition.
  Of what lies at a path of a stack (chapter 12): the document's answers, prefix by prefix; its floor; an empty layer on top, or below; a directory's; a whiteout, a file on top. No condition.
  Two layers made one (chapter 15), told by lists: laid over any tree the one makes what both make; it is a layer; at the bottom it is what it shows; a stack. No condition.
  How one entry is laid over a layer, told step by step by lists: what stands at its path is made opaque; it is put ahead of the first one that isn't less; what goes at the bottom. No condition.
-/
import Derived.WalkKit
import Derived.IntWalk
import Derived.Test.YtlnjbadbpddlmaaDoorPa
namespace Go.Proofs.YtlnjbadbpddlmaaDoor
open Go.RowKit

/-- A number's bytes: its digits of 7 bits, the lowest first, each but the last one with 128 added. -/
def dg (n : Nat) : List UInt8 := if n < 128 then [UInt8.ofNat n] else UInt8.ofNat (n % 128 + 128) :: dg (n / 128)
termination_by n
decreasing_by omega

theorem dg_last {n : Nat} (h : n < 128) : dg n = [UInt8.ofNat n] := by rw [dg, if_pos h]
theorem dg_more {n : Nat} (h : ¬ n < 128) : dg n = UInt8.ofNat (n % 128 + 128) :: dg (n / 128) := by rw [dg, if_neg h]
theorem ofNat_toNat {n : Nat} (h : n < 256) : (UInt8.ofNat n).toNat = n := by rw [UInt8.toNat_ofNat']; exact Nat.mod_eq_of_lt h

theorem dg_pos (n : Nat) : 1 ≤ (dg n).length := by
  by_cases h : n < 128
  · rw [dg_last h]; simp
  · rw [dg_more h]; simp
theorem dg_le : ∀ (k n : Nat), n < 128 ^ (k + 1) → (dg n).length ≤ k + 1
  | 0, n, h => by rw [dg_last (by simpa using h)]; simp
  | k + 1, n, h => by
    by_cases h1 : n < 128
    · rw [dg_last h1]; simp
    · rw [dg_more h1, List.length_cons]
      have := dg_le k (n / 128) (by rw [Nat.div_lt_iff_lt_mul (by decide)]; rw [Nat.pow_succ] at h; exact h)
      omega
theorem dg_nine {n : Nat} (h : n ≤ 4611686018427387904) : (dg n).length ≤ 9 := dg_le 8 n (by omega)
theorem dg_mono : ∀ (a b : Nat), a ≤ b → (dg a).length ≤ (dg b).length := by
  intro a
  induction a using Nat.strongRecOn with
  | _ a ih =>
    intro b h
    by_cases h1 : a < 128
    · rw [dg_last h1]; exact dg_pos b
    · have h2 : ¬ b < 128 := by omega
      rw [dg_more h1, dg_more h2, List.length_cons, List.length_cons]
      have := ih (a / 128) (by omega) (b / 128) (Nat.div_le_div_right h)
      omega
theorem dg_cut : ∀ (a b : Nat) (x y : List UInt8), dg a ++ x = dg b ++ y → a = b ∧ x = y := by
  intro a
  induction a using Nat.strongRecOn with
  | _ a ih =>
    intro b x y h
    by_cases h1 : a < 128
    · by_cases h2 : b < 128
      · rw [dg_last h1, dg_last h2] at h
        simp only [List.cons_append, List.nil_append, List.cons.injEq] at h
        have e := congrArg UInt8.toNat h.1
        rw [ofNat_toNat (by omega), ofNat_toNat (by omega)] at e
        exact ⟨e, h.2⟩
      · rw [dg_last h1, dg_more h2] at h
        simp only [List.cons_append, List.nil_append, List.cons.injEq] at h
        have e := congrArg UInt8.toNat h.1
        rw [ofNat_toNat (by omega), ofNat_toNat (by omega)] at e
        omega
    · by_cases h2 : b < 128
      · rw [dg_more h1, dg_last h2] at h
        simp only [List.cons_append, List.nil_append, List.cons.injEq] at h
        have e := congrArg UInt8.toNat h.1
        rw [ofNat_toNat (by omega), ofNat_toNat (by omega)] at e
        omega
      · rw [dg_more h1, dg_more h2] at h
        simp only [List.cons_append, List.cons.injEq] at h
        have e := congrArg UInt8.toNat h.1
        rw [ofNat_toNat (by omega), ofNat_toNat (by omega)] at e
        obtain ⟨e2, e3⟩ := ih (a / 128) (by omega) (b / 128) x y h.2
        exact ⟨by omega, e3⟩
theorem dg_inj {a b : Nat} (h : dg a = dg b) : a = b := (dg_cut a b [] [] (by rw [h])).1

/-- The bytes as a text. -/
def numB (n : Nat) : ByteArray := ⟨(dg n).toArray⟩
theorem numB_list (n : Nat) : (numB n).data.toList = dg n := by simp [numB]
theorem numB_size (n : Nat) : (numB n).size = (dg n).length := rfl
theorem numB_size_nine {n : Nat} (h : n ≤ 4611686018427387904) : (numB n).size ≤ 9 := dg_nine h
theorem numB_size_pos (n : Nat) : 1 ≤ (numB n).size := dg_pos n
theorem numB_inj {a b : Nat} (h : numB a = numB b) : a = b := dg_inj (by rw [← numB_list, h, numB_list])

/-- The lowest 62 bits of any number. -/
theorem low62 (a : Int) : ∃ x : Nat, bits .and .i64 a 4611686018427387903 = (x : Int) ∧ x < 4611686018427387904 := by
  have h : (BitVec.ofInt 64 a &&& BitVec.ofInt 64 4611686018427387903).toNat ≤ 4611686018427387903 := by
    rw [BitVec.toNat_and]
    exact Nat.le_trans Nat.and_le_right (by decide)
  refine ⟨(BitVec.ofInt 64 a &&& BitVec.ofInt 64 4611686018427387903).toNat, ?_, by omega⟩
  show IntKind.i64.wrap ((BitVec.ofInt 64 a &&& BitVec.ofInt 64 4611686018427387903).toNat : Int) = _
  exact IntWalk.i64_in _ (by omega)
end Go.Proofs.YtlnjbadbpddlmaaDoor

namespace Go.Proofs.YtlnjbadbpddlmaaDoor
open Go.RowKit

/-- An entry as a value. -/
abbrev entV (p : ByteArray) (k : Int) (d : ByteArray) : Value := .agg #[.string p, .int .i64 k, .string d]
/-- Is an entry right? -/
def rightE (p : ByteArray) (k : Int) (d : ByteArray) : Bool := decide (1 ≤ dp p.data.toList) && (((k == 1) && decide (d.size ≤ 256)) || (decide (2 ≤ k ∧ k ≤ 4) && decide (d.size = 0)))
/-- An entry's bytes. -/
def layE (p : ByteArray) (k : Nat) (d : ByteArray) : ByteArray := numB k ++ numB p.size ++ p ++ numB d.size ++ d
end Go.Proofs.YtlnjbadbpddlmaaDoor

namespace Go.Proofs.YtlnjbadbpddlmaaDoor
open Go.RowKit

theorem layE_list (p : ByteArray) (k : Nat) (d : ByteArray) : (layE p k d).data.toList = dg k ++ (dg p.size ++ (p.data.toList ++ (dg d.size ++ d.data.toList))) := by
  unfold layE
  simp only [ByteArray.data_append, Array.toList_append, numB_list, List.append_assoc]
theorem ba_ext {a b : ByteArray} (h : a.data.toList = b.data.toList) : a = b := by
  apply ByteArray.ext
  exact Array.ext' h
/-- Two entries' bytes, with anything behind them, are the same only if both are. -/
theorem layE_cut {p q d e : ByteArray} {k m : Nat} {x y : List UInt8} (h : (layE p k d).data.toList ++ x = (layE q m e).data.toList ++ y) : p = q ∧ k = m ∧ d = e ∧ x = y := by
  rw [layE_list, layE_list] at h
  simp only [List.append_assoc] at h
  obtain ⟨rfl, h1⟩ := dg_cut _ _ _ _ h
  obtain ⟨h2, h3⟩ := dg_cut _ _ _ _ h1
  obtain ⟨h4, h5⟩ := List.append_inj h3 (by rw [← Lib.size_eq, ← Lib.size_eq]; exact h2)
  obtain ⟨h6, h7⟩ := dg_cut _ _ _ _ h5
  obtain ⟨h8, h9⟩ := List.append_inj h7 (by rw [← Lib.size_eq, ← Lib.size_eq]; exact h6)
  exact ⟨ba_ext h4, rfl, ba_ext h8, h9⟩
theorem rightE_parts {p d : ByteArray} {k : Int} (h : rightE p k d = true) : 1 ≤ dp p.data.toList ∧ 1 ≤ k ∧ k ≤ 4 ∧ d.size ≤ 256 ∧ (k = 1 ∨ d.size = 0) := by
  unfold rightE at h
  rw [Bool.and_eq_true, decide_eq_true_iff, Bool.or_eq_true, Bool.and_eq_true, Bool.and_eq_true, beq_iff_eq, decide_eq_true_iff, decide_eq_true_iff, decide_eq_true_iff] at h
  omega
theorem rightE_of {p d : ByteArray} {k : Int} (h1 : 1 ≤ dp p.data.toList) (h2 : (k = 1 ∧ d.size ≤ 256) ∨ ((2 ≤ k ∧ k ≤ 4) ∧ d.size = 0)) : rightE p k d = true := by
  unfold rightE
  rw [Bool.and_eq_true, decide_eq_true_iff, Bool.or_eq_true, Bool.and_eq_true, Bool.and_eq_true, beq_iff_eq, decide_eq_true_iff, decide_eq_true_iff, decide_eq_true_iff]
  exact ⟨h1, h2⟩
theorem rightE_iff {p d : ByteArray} {k : Int} : rightE p k d = true ↔ 1 ≤ dp p.data.toList ∧ ((k = 1 ∧ d.size ≤ 256) ∨ ((2 ≤ k ∧ k ≤ 4) ∧ d.size = 0)) := by
  unfold rightE
  rw [Bool.and_eq_true, decide_eq_true_iff, Bool.or_eq_true, Bool.and_eq_true, Bool.and_eq_true, beq_iff_eq, decide_eq_true_iff, decide_eq_true_iff, decide_eq_true_iff]
theorem isP_of_dp {l : List UInt8} (h : 1 ≤ dp l) : isP l := by
  by_cases hp : isP l
  · exact hp
  · rw [dp_neg hp] at h
    omega
/-- A path of names has at most 54 bytes. -/
theorem jn_len : ∀ (ns : List (List UInt8)), (∀ x ∈ ns, x.length ≤ 8) → (jn ns).length ≤ 9 * ns.length
  | [], _ => by simp [jn]
  | x :: r, h => by
    have h1 := h x List.mem_cons_self
    have h2 := jn_len r fun y hy => h y (List.mem_cons_of_mem _ hy)
    have h3 : jn (x :: r) = 47 :: (x ++ jn r) := by simp [jn]
    rw [h3]
    simp
    omega
theorem isP_len {l : List UInt8} (h : isP l) : l.length ≤ 54 := by
  have h6 := h.2.1
  have h8 : ∀ x ∈ pcs l, x.length ≤ 8 := fun x hx => nm_len (h.2.2 x hx)
  rw [← h.eq, pth]
  split
  · decide
  · have := jn_len _ h8
    omega
end Go.Proofs.YtlnjbadbpddlmaaDoor

namespace Go.Proofs.YtlnjbadbpddlmaaDoor
open Go.RowKit

/-- Is a text less, byte by byte? -/
def lt8 (a b : List UInt8) : Bool := Op.bytesLess a b
theorem lt8_irr : ∀ a : List UInt8, lt8 a a = false
  | [] => rfl
  | c :: x => by
    have := lt8_irr x
    show (decide (c < c) || (c == c && Op.bytesLess x x)) = false
    rw [show Op.bytesLess x x = false from this]
    simp
theorem lt8_cons (c d : UInt8) (x y : List UInt8) : lt8 (c :: x) (d :: y) = (decide (c < d) || (c == d && lt8 x y)) := rfl
theorem lt8_trans : ∀ {a b c : List UInt8}, lt8 a b = true → lt8 b c = true → lt8 a c = true
  | [], [], _, h, _ => by cases h
  | [], _ :: _, [], _, h => by cases h
  | [], _ :: _, _ :: _, _, _ => rfl
  | _ :: _, [], _, h, _ => by cases h
  | _ :: _, _ :: _, [], _, h => by cases h
  | p :: x, q :: y, r :: z, h1, h2 => by
    rw [lt8_cons, Bool.or_eq_true, Bool.and_eq_true, decide_eq_true_iff, beq_iff_eq, UInt8.lt_iff_toNat_lt] at *
    rcases h1 with h1 | ⟨rfl, h1⟩
    · rcases h2 with h2 | ⟨rfl, h2⟩
      · exact .inl (by omega)
      · exact .inl h1
    · rcases h2 with h2 | ⟨rfl, h2⟩
      · exact .inl h2
      · exact .inr ⟨rfl, lt8_trans h1 h2⟩
theorem lt8_tri : ∀ a b : List UInt8, a = b ∨ lt8 a b = true ∨ lt8 b a = true
  | [], [] => .inl rfl
  | [], _ :: _ => .inr (.inl rfl)
  | _ :: _, [] => .inr (.inr rfl)
  | p :: x, q :: y => by
    rw [lt8_cons, lt8_cons, Bool.or_eq_true, Bool.and_eq_true, decide_eq_true_iff, beq_iff_eq, Bool.or_eq_true, Bool.and_eq_true, decide_eq_true_iff, beq_iff_eq, UInt8.lt_iff_toNat_lt, UInt8.lt_iff_toNat_lt]
    by_cases h : p = q
    · subst h
      rcases lt8_tri x y with rfl | h | h
      · exact .inl rfl
      · exact .inr (.inl (.inr ⟨rfl, h⟩))
      · exact .inr (.inr (.inr ⟨rfl, h⟩))
    · have : p.toNat ≠ q.toNat := fun e => h (UInt8.toNat_inj.1 e)
      rcases Nat.lt_or_gt_of_ne this with h | h
      · exact .inr (.inl (.inl h))
      · exact .inr (.inr (.inl h))
theorem lt8_asymm {a b : List UInt8} (h : lt8 a b = true) : lt8 b a = false := by
  cases h2 : lt8 b a with
  | false => rfl
  | true => have := lt8_trans h h2; rw [lt8_irr] at this; cases this
theorem lt8_ne {a b : List UInt8} (h : lt8 a b = true) : a ≠ b := fun e => by rw [e, lt8_irr] at h; cases h
theorem lt8_prefix : ∀ {a b : List UInt8}, a <+: b → a.length < b.length → lt8 a b = true
  | [], [], _, h => by simp at h
  | [], _ :: _, _, _ => rfl
  | c :: x, [], h, _ => by simp at h
  | c :: x, d :: y, h, hl => by
    obtain ⟨rfl, h2⟩ := List.cons_prefix_cons.1 h
    have := lt8_prefix h2 (by simpa using hl)
    rw [lt8_cons, this]
    simp
/-- An entry: path, kind, data. -/
abbrev Ent := ByteArray × Int × ByteArray
/-- Its path's bytes. -/
abbrev pl (e : Ent) : List UInt8 := e.1.data.toList
def rE (e : Ent) : Bool := rightE e.1 e.2.1 e.2.2
/-- A directory. -/
def hd (e : Ent) : Bool := e.2.1 == 2 || e.2.1 == 4
/-- A path's directory. -/
def par9 (p : List UInt8) : List UInt8 := pth (pcs p).dropLast
/-- An entry that lies in the root, or whose directory is there. -/
def inD (l : List Ent) (e : Ent) : Prop := par9 (pl e) = [47] ∨ ∃ d ∈ l, pl d = par9 (pl e) ∧ hd d = true
instance (l : List Ent) (e : Ent) : Decidable (inD l e) := inferInstanceAs (Decidable (_ ∨ _))
abbrev Asc (l : List Ent) : Prop := l.Pairwise fun a b => lt8 (pl a) (pl b) = true
/-- A right layer, but for its size. -/
def RL (l : List Ent) : Prop := (∀ e ∈ l, rE e = true) ∧ Asc l ∧ ∀ e ∈ l, inD l e
instance (l : List Ent) : Decidable (RL l) := inferInstanceAs (Decidable (_ ∧ _))
/-- A right layer. -/
def RightL (l : List Ent) : Prop := l.length ≤ 64 ∧ RL l
instance (l : List Ent) : Decidable (RightL l) := inferInstanceAs (Decidable (_ ∧ _))

theorem rE_isP {e : Ent} (h : rE e = true) : isP (pl e) ∧ pl e ≠ [47] := by
  obtain ⟨h1, _⟩ := rightE_parts h
  have hp := isP_of_dp h1
  refine ⟨hp, fun e0 => ?_⟩
  rw [dp_pos hp, (pcs_nil hp).2 e0] at h1
  simp at h1
theorem par9_parts {p : List UInt8} (h : isP p) (h1 : p ≠ [47]) : ∃ ms x, good ms ∧ nm x = true ∧ pcs p = ms ++ [x] ∧ p = jn ms ++ 47 :: x ∧ par9 p = pth ms := by
  obtain ⟨ms, x, a1, a2, a3, a4⟩ := par h h1
  exact ⟨ms, x, a1, a2, a3, a4, by unfold par9; rw [a3, List.dropLast_concat]⟩
theorem und_par9 {p q : List UInt8} (h : isP p) (h1 : p ≠ [47]) : und p q = (decide (q = par9 p) || und (par9 p) q) := by
  obtain ⟨ms, x, a1, _, a3, _, a5⟩ := par9_parts h h1
  rw [a5]
  exact und_parent h a1 a3
theorem par9_lt {p : List UInt8} (h : isP p) (h1 : p ≠ [47]) : lt8 (par9 p) p = true := by
  have h2 := und_par9 (q := par9 p) h h1
  rw [decide_eq_true rfl, Bool.true_or] at h2
  obtain ⟨h3, h4⟩ := und_longer h2
  exact lt8_prefix h3 h4
theorem und_lt {p q : List UInt8} (h : und p q = true) : lt8 q p = true := by
  obtain ⟨h3, h4⟩ := und_longer h
  exact lt8_prefix h3 h4

theorem rl_nil : RL [] := ⟨by simp, List.Pairwise.nil, by simp⟩
theorem asc_snoc {l : List Ent} {e : Ent} : Asc (l ++ [e]) ↔ Asc l ∧ ∀ a ∈ l, lt8 (pl a) (pl e) = true := by
  unfold Asc
  rw [List.pairwise_append]
  simp
theorem asc_last {l : List Ent} {e : Ent} (h : Asc l) : (∀ a ∈ l, lt8 (pl a) (pl e) = true) ↔ ∀ a, l.getLast? = some a → lt8 (pl a) (pl e) = true := by
  constructor
  · intro h2 a ha
    exact h2 a (List.mem_of_getLast? ha)
  · intro h2 a ha
    rcases List.eq_nil_or_concat l with rfl | ⟨r, b, rfl⟩
    · cases ha
    · have hb := h2 b (by simp)
      rw [List.concat_eq_append] at *
      rcases List.mem_append.1 ha with h3 | h3
      · exact lt8_trans ((asc_snoc.1 h).2 a h3) hb
      · obtain rfl : a = b := by simpa using h3
        exact hb
theorem rl_snoc {l : List Ent} {e : Ent} : RL (l ++ [e]) ↔ RL l ∧ rE e = true ∧ (∀ a, l.getLast? = some a → lt8 (pl a) (pl e) = true) ∧ inD l e := by
  constructor
  · rintro ⟨h1, h2, h3⟩
    obtain ⟨h4, h5⟩ := asc_snoc.1 h2
    have he := h1 e (by simp)
    obtain ⟨p1, p2⟩ := rE_isP he
    refine ⟨⟨fun x hx => h1 x (by simp [hx]), h4, fun x hx => ?_⟩, he, (asc_last h4).1 h5, ?_⟩
    · refine (h3 x (by simp [hx])).imp_right ?_
      rintro ⟨d, hd1, hd2, hd3⟩
      rcases List.mem_append.1 hd1 with h | h
      · exact ⟨d, h, hd2, hd3⟩
      · obtain rfl : d = e := by simpa using h
        obtain ⟨q1, q2⟩ := rE_isP (h1 x (by simp [hx]))
        have a1 := par9_lt q1 q2
        rw [← hd2] at a1
        have a2 := lt8_trans a1 (h5 x hx)
        rw [lt8_irr] at a2
        cases a2
    · refine (h3 e (by simp)).imp_right ?_
      rintro ⟨d, hd1, hd2, hd3⟩
      rcases List.mem_append.1 hd1 with h | h
      · exact ⟨d, h, hd2, hd3⟩
      · obtain rfl : d = e := by simpa using h
        have a1 := par9_lt p1 p2
        rw [← hd2, lt8_irr] at a1
        cases a1
  · rintro ⟨⟨h1, h2, h3⟩, h4, h5, h6⟩
    refine ⟨fun x hx => ?_, asc_snoc.2 ⟨h2, (asc_last h2).2 h5⟩, fun x hx => ?_⟩
    · rcases List.mem_append.1 hx with h | h
      · exact h1 x h
      · obtain rfl : x = e := by simpa using h
        exact h4
    · rcases List.mem_append.1 hx with h | h
      · exact (h3 x h).imp_right fun ⟨d, a, b⟩ => ⟨d, by simp [a], b⟩
      · obtain rfl : x = e := by simpa using h
        exact h6.imp_right fun ⟨d, a, b⟩ => ⟨d, by simp [a], b⟩
theorem rl_take {l : List Ent} (h : RL l) (n : Nat) : RL (l.take n) := by
  have key : ∀ k (m : List Ent), m.length = k → ∀ n, RL m → RL (m.take n) := by
    intro k
    induction k with
    | zero => intro m hm n h; rw [List.length_eq_zero_iff.1 hm]; simpa using rl_nil
    | succ k ih =>
      intro m hm n h
      rcases List.eq_nil_or_concat m with rfl | ⟨r, b, rfl⟩
      · simpa using rl_nil
      · rw [List.concat_eq_append] at *
        simp at hm
        by_cases hn : n ≤ r.length
        · rw [List.take_append_of_le_length hn]
          exact ih r hm n (rl_snoc.1 h).1
        · rw [List.take_of_length_le (by simp; omega)]
          exact h
  exact key _ l rfl n h
theorem asc_inj {l : List Ent} (h : Asc l) {a b : Ent} (ha : a ∈ l) (hb : b ∈ l) (e : pl a = pl b) : a = b := by
  induction l with
  | nil => cases ha
  | cons x r ih =>
    obtain ⟨h1, h2⟩ := List.pairwise_cons.1 h
    rcases List.mem_cons.1 ha with e1 | ha'
    · rcases List.mem_cons.1 hb with e2 | hb'
      · rw [e1, e2]
      · have := h1 b hb'; rw [← e1, e, lt8_irr] at this; cases this
    · rcases List.mem_cons.1 hb with e2 | hb'
      · have := h1 a ha'; rw [← e2, e, lt8_irr] at this; cases this
      · exact ih h2 ha' hb'

/-- The entry at a path. -/
def fnd (l : List Ent) (p : List UInt8) : Option Ent := l.find? fun e => decide (pl e = p)
theorem fnd_some {l : List Ent} (h : Asc l) {p : List UInt8} {e : Ent} : fnd l p = some e ↔ e ∈ l ∧ pl e = p := by
  unfold fnd
  constructor
  · intro he
    have h1 := List.find?_some he
    exact ⟨List.mem_of_find?_eq_some he, by simpa using h1⟩
  · rintro ⟨h1, h2⟩
    cases hf : l.find? fun e => decide (pl e = p) with
    | none =>
      have := List.find?_eq_none.1 hf e h1
      simp [h2] at this
    | some x =>
      have h3 := List.find?_some hf
      have h4 : pl x = p := by simpa using h3
      rw [asc_inj h (List.mem_of_find?_eq_some hf) h1 (h4.trans h2.symm)]
theorem fnd_none {l : List Ent} {p : List UInt8} : fnd l p = none ↔ ∀ e ∈ l, pl e ≠ p := by
  unfold fnd
  rw [List.find?_eq_none]
  simp

/-- Entries with one, instead of that at its path. -/
def wth (l : List Ent) (e : Ent) : List Ent := l.filter (fun a => lt8 (pl a) (pl e)) ++ e :: l.filter (fun a => lt8 (pl e) (pl a))
/-- Entries without that at a path. -/
def wout (l : List Ent) (p : List UInt8) : List Ent := l.filter fun a => decide (pl a ≠ p)
theorem mem_wth {l : List Ent} {e x : Ent} : x ∈ wth l e ↔ x = e ∨ x ∈ l ∧ pl x ≠ pl e := by
  unfold wth
  rw [List.mem_append, List.mem_cons, List.mem_filter, List.mem_filter]
  constructor
  · rintro (⟨h1, h2⟩ | rfl | ⟨h1, h2⟩)
    · exact .inr ⟨h1, lt8_ne h2⟩
    · exact .inl rfl
    · exact .inr ⟨h1, (lt8_ne h2).symm⟩
  · rintro (rfl | ⟨h1, h2⟩)
    · exact .inr (.inl rfl)
    · rcases lt8_tri (pl x) (pl e) with h | h | h
      · exact absurd h h2
      · exact .inl ⟨h1, h⟩
      · exact .inr (.inr ⟨h1, h⟩)
theorem asc_wth {l : List Ent} (h : Asc l) (e : Ent) : Asc (wth l e) := by
  unfold wth Asc
  rw [List.pairwise_append, List.pairwise_cons]
  refine ⟨h.filter _, ⟨fun x hx => by simpa using (List.mem_filter.1 hx).2, h.filter _⟩, fun a ha b hb => ?_⟩
  have h1 : lt8 (pl a) (pl e) = true := by simpa using (List.mem_filter.1 ha).2
  rcases List.mem_cons.1 hb with rfl | hb
  · exact h1
  · exact lt8_trans h1 (by simpa using (List.mem_filter.1 hb).2)
theorem asc_ext : ∀ {a b : List Ent}, Asc a → Asc b → (∀ x, x ∈ a ↔ x ∈ b) → a = b
  | [], [], _, _, _ => rfl
  | [], y :: s, _, _, h => absurd ((h y).2 List.mem_cons_self) (by simp)
  | x :: r, [], _, _, h => absurd ((h x).1 List.mem_cons_self) (by simp)
  | x :: r, y :: s, ha, hb, h => by
    obtain ⟨a1, a2⟩ := List.pairwise_cons.1 ha
    obtain ⟨b1, b2⟩ := List.pairwise_cons.1 hb
    have hxy : x = y := by
      rcases List.mem_cons.1 ((h x).1 List.mem_cons_self) with e | e
      · exact e
      · rcases List.mem_cons.1 ((h y).2 List.mem_cons_self) with e2 | e2
        · exact e2.symm
        · have := lt8_trans (b1 x e) (a1 y e2)
          rw [lt8_irr] at this
          cases this
    subst hxy
    rw [asc_ext a2 b2 fun z => ?_]
    constructor
    · intro hz
      rcases List.mem_cons.1 ((h z).1 (List.mem_cons_of_mem _ hz)) with rfl | e
      · have := a1 z hz; rw [lt8_irr] at this; cases this
      · exact e
    · intro hz
      rcases List.mem_cons.1 ((h z).2 (List.mem_cons_of_mem _ hz)) with rfl | e
      · have := b1 z hz; rw [lt8_irr] at this; cases this
      · exact e
theorem wth_snoc {l : List Ent} {e : Ent} (h : ∀ a ∈ l, lt8 (pl a) (pl e) = true) : wth l e = l ++ [e] := by
  unfold wth
  rw [List.filter_eq_self.2 h, List.filter_eq_nil_iff.2 fun a ha => by rw [lt8_asymm (h a ha)]; simp]
theorem wth_mem {l : List Ent} (h : Asc l) {e : Ent} (he : e ∈ l) : wth l e = l := by
  refine asc_ext (asc_wth h e) h fun x => ?_
  rw [mem_wth]
  constructor
  · rintro (rfl | ⟨h1, _⟩)
    · exact he
    · exact h1
  · intro hx
    by_cases e1 : pl x = pl e
    · exact .inl (asc_inj h hx he e1)
    · exact .inr ⟨hx, e1⟩
theorem fnd_wth {l : List Ent} (h : Asc l) (e : Ent) (p : List UInt8) : fnd (wth l e) p = if p = pl e then some e else fnd l p := by
  split
  · rename_i h1
    exact (fnd_some (asc_wth h e)).2 ⟨mem_wth.2 (.inl rfl), h1.symm⟩
  · rename_i h1
    cases hf : fnd l p with
    | none =>
      rw [fnd_none] at hf ⊢
      intro x hx
      rcases mem_wth.1 hx with rfl | ⟨h2, _⟩
      · exact fun e0 => h1 e0.symm
      · exact hf x h2
    | some x =>
      rw [fnd_some h] at hf
      rw [fnd_some (asc_wth h e)]
      exact ⟨mem_wth.2 (.inr ⟨hf.1, fun e0 => h1 (hf.2.symm.trans e0)⟩), hf.2⟩
theorem fnd_wout (l : List Ent) (p : List UInt8) : fnd (wout l p) p = none := by
  rw [fnd_none]
  intro e he
  simpa using (List.mem_filter.1 he).2
theorem len_wout {l : List Ent} (h : Asc l) {p : List UInt8} {e : Ent} (he : fnd l p = some e) : (wout l p).length + 1 = l.length := by
  rw [fnd_some h] at he
  obtain ⟨he, hp⟩ := he
  induction l with
  | nil => cases he
  | cons x r ih =>
    obtain ⟨h1, h2⟩ := List.pairwise_cons.1 h
    unfold wout
    rcases List.mem_cons.1 he with rfl | he
    · rw [List.filter_cons_of_neg (by simp [hp]), List.filter_eq_self.2 fun y hy => ?_]
      · rfl
      · have := lt8_ne (h1 y hy)
        simp only [ne_eq, decide_not, Bool.not_eq_eq_eq_not, Bool.not_true, decide_eq_false_iff_not]
        exact fun e0 => this (hp.trans e0.symm)
    · have h3 : pl x ≠ p := fun e0 => by
        have := lt8_ne (h1 e he)
        exact this (e0.trans hp.symm)
      rw [List.filter_cons_of_pos (by simpa using h3), List.length_cons, List.length_cons]
      have := ih h2 he
      unfold wout at this
      omega
/-- What lies under a path. -/
def blw (l : List Ent) (p : List UInt8) : List Ent := l.filter fun a => und (pl a) p
/-- The rest: neither at a path nor under it. -/
def rst (l : List Ent) (p : List UInt8) : List Ent := l.filter fun a => !und (pl a) p && decide (pl a ≠ p)
theorem rl_rst {l : List Ent} (h : RL l) (p : List UInt8) : RL (rst l p) := by
  obtain ⟨h1, h2, h3⟩ := h
  refine ⟨fun e he => h1 e ((List.mem_filter.1 he).1), h2.filter _, fun e he => ?_⟩
  have hr := h1 e ((List.mem_filter.1 he).1)
  obtain ⟨p1, p2⟩ := rE_isP hr
  refine (h3 e ((List.mem_filter.1 he).1)).imp_right ?_
  rintro ⟨d, hd1, hd2, hd3⟩
  refine ⟨d, List.mem_filter.2 ⟨hd1, ?_⟩, hd2, hd3⟩
  have hu := (List.mem_filter.1 he).2
  rw [Bool.and_eq_true, Bool.not_eq_eq_eq_not, Bool.not_true, decide_eq_true_iff] at hu ⊢
  have hq := und_par9 (q := p) p1 p2
  rw [hu.1] at hq
  rw [hd2]
  rw [eq_comm, Bool.or_eq_false_iff, decide_eq_false_iff_not] at hq
  exact ⟨hq.2, fun e0 => hq.1 e0.symm⟩
theorem len_rst (l : List Ent) (p : List UInt8) : (rst l p).length ≤ l.length := List.length_filter_le _ _
end Go.Proofs.YtlnjbadbpddlmaaDoor

namespace Go.Proofs.YtlnjbadbpddlmaaDoor
open Go.RowKit

/-- The directory at a path. -/
def dE (p : ByteArray) : Ent := (p, 2, ⟨#[]⟩)
/-- One entry laid over a tree. -/
def over1 (t : List Ent) (e : Ent) : List Ent :=
  if e.2.1 = 2 then wth t (dE e.1) else if e.2.1 = 1 then wth (rst t (pl e)) e else if e.2.1 = 4 then wth (rst t (pl e)) (dE e.1) else rst t (pl e)
/-- A layer laid over a tree. -/
def over (t l : List Ent) : List Ent := l.foldl over1 t
/-- A tree, but for its size. -/
def TR (t : List Ent) : Prop := RL t ∧ ∀ e ∈ t, e.2.1 ≤ 2
instance (t : List Ent) : Decidable (TR t) := inferInstanceAs (Decidable (_ ∧ _))
/-- A tree. -/
def TreeL (t : List Ent) : Prop := t.length ≤ 1024 ∧ TR t
instance (t : List Ent) : Decidable (TreeL t) := inferInstanceAs (Decidable (_ ∧ _))
/-- What an entry shows. -/
def sh (e : Ent) : Ent := if e.2.1 = 1 then e else dE e.1
theorem pl_sh (e : Ent) : pl (sh e) = pl e := by unfold sh; split <;> rfl
theorem asc_rst {t : List Ent} (h : Asc t) (p : List UInt8) : Asc (rst t p) := h.filter _
theorem mem_rst {t : List Ent} {p : List UInt8} {x : Ent} : x ∈ rst t p ↔ x ∈ t ∧ und (pl x) p = false ∧ pl x ≠ p := by
  unfold rst
  rw [List.mem_filter, Bool.and_eq_true, Bool.not_eq_eq_eq_not, Bool.not_true, decide_eq_true_iff]
theorem asc_over1 {t : List Ent} (h : Asc t) (e : Ent) : Asc (over1 t e) := by
  unfold over1
  split
  · exact asc_wth h _
  · split
    · exact asc_wth (asc_rst h _) _
    · split
      · exact asc_wth (asc_rst h _) _
      · exact asc_rst h _
theorem asc_over : ∀ {l t : List Ent}, Asc t → Asc (over t l)
  | [], _, h => h
  | e :: r, _, h => asc_over (l := r) (asc_over1 h e)
theorem over_snoc (t l : List Ent) (e : Ent) : over t (l ++ [e]) = over1 (over t l) e := by unfold over; rw [List.foldl_append]; rfl
/-- A tree's directory is its path's. -/
theorem dir_eq {x : Ent} (h : rE x = true) (hk : x.2.1 = 2) : x = dE x.1 := by
  obtain ⟨_, _, _, _, h5⟩ := rightE_parts h
  obtain ⟨p, k, d⟩ := x
  simp only at hk h5
  subst hk
  have : d = ⟨#[]⟩ := by
    rcases h5 with h5 | h5
    · cases h5
    · exact ba_ext (List.length_eq_zero_iff.1 (by rw [← Lib.size_eq]; exact h5))
  rw [this]
  rfl
/-- What is there behind one entry. -/
theorem mem_over1 {t : List Ent} {e x : Ent} (hk : 1 ≤ e.2.1 ∧ e.2.1 ≤ 4) : x ∈ over1 t e ↔ (e.2.1 ≠ 3 ∧ x = sh e) ∨ (x ∈ t ∧ pl x ≠ pl e ∧ (e.2.1 ≠ 2 → und (pl x) (pl e) = false)) := by
  unfold over1 sh
  by_cases h2 : e.2.1 = 2
  · rw [if_pos h2, mem_wth, if_neg (by omega)]
    simp only [h2]
    constructor
    · rintro (h | ⟨h, h'⟩)
      · exact .inl ⟨by omega, h⟩
      · exact .inr ⟨h, h', fun h9 => absurd rfl h9⟩
    · rintro (⟨_, h⟩ | ⟨h, h', _⟩)
      · exact .inl h
      · exact .inr ⟨h, h'⟩
  · rw [if_neg h2]
    by_cases h1 : e.2.1 = 1
    · rw [if_pos h1, if_pos h1, mem_wth, mem_rst]
      constructor
      · rintro (h | ⟨⟨h, h', h''⟩, _⟩)
        · exact .inl ⟨by omega, h⟩
        · exact .inr ⟨h, h'', fun _ => h'⟩
      · rintro (⟨_, h⟩ | ⟨h, h', h''⟩)
        · exact .inl h
        · exact .inr ⟨⟨h, h'' h2, h'⟩, h'⟩
    · rw [if_neg h1, if_neg h1]
      by_cases h4 : e.2.1 = 4
      · rw [if_pos h4, mem_wth, mem_rst]
        constructor
        · rintro (h | ⟨⟨h, h', h''⟩, _⟩)
          · exact .inl ⟨by omega, h⟩
          · exact .inr ⟨h, h'', fun _ => h'⟩
        · rintro (⟨_, h⟩ | ⟨h, h', h''⟩)
          · exact .inl h
          · exact .inr ⟨⟨h, h'' h2, h'⟩, h'⟩
      · rw [if_neg h4, mem_rst]
        constructor
        · rintro ⟨h, h', h''⟩
          exact .inr ⟨h, h'', fun _ => h'⟩
        · rintro (⟨h, _⟩ | ⟨h, h', h''⟩)
          · omega
          · exact ⟨h, h'' h2, h'⟩
theorem kind_of {e : Ent} (h : rE e = true) : 1 ≤ e.2.1 ∧ e.2.1 ≤ 4 := by
  obtain ⟨_, h2, h3, _⟩ := rightE_parts h
  exact ⟨h2, h3⟩
/-- What is there behind a layer: what its entries show, and what was there that none of them names, or hides. -/
theorem mem_over {l t : List Ent} (hr : ∀ e ∈ l, rE e = true) (hA : Asc l) {x : Ent} : x ∈ over t l ↔ (∃ e ∈ l, e.2.1 ≠ 3 ∧ x = sh e) ∨ (x ∈ t ∧ ∀ e ∈ l, pl x ≠ pl e ∧ (e.2.1 ≠ 2 → und (pl x) (pl e) = false)) := by
  have key : ∀ k (m : List Ent), m.length = k → (∀ e ∈ m, rE e = true) → Asc m → (x ∈ over t m ↔ (∃ e ∈ m, e.2.1 ≠ 3 ∧ x = sh e) ∨ (x ∈ t ∧ ∀ e ∈ m, pl x ≠ pl e ∧ (e.2.1 ≠ 2 → und (pl x) (pl e) = false))) := by
    intro k
    induction k with
    | zero =>
      intro m hm _ _
      rw [List.length_eq_zero_iff.1 hm]
      simp [over]
    | succ k ih =>
      intro m hm hr hA
      rcases List.eq_nil_or_concat m with rfl | ⟨r, b, rfl⟩
      · simp at hm
      · rw [List.concat_eq_append] at *
        have hrb := hr b (by simp)
        obtain ⟨hA1, hA2⟩ := asc_snoc.1 hA
        have ih := ih r (by simpa using hm) (fun e he => hr e (by simp [he])) hA1
        rw [over_snoc, mem_over1 (kind_of hrb), ih]
        constructor
        · rintro (⟨h1, h2⟩ | ⟨h1 | ⟨h1, h2⟩, h3, h4⟩)
          · exact .inl ⟨b, by simp, h1, h2⟩
          · obtain ⟨e, he, h5⟩ := h1
            exact .inl ⟨e, by simp [he], h5⟩
          · refine .inr ⟨h1, fun e he => ?_⟩
            rcases List.mem_append.1 he with he | he
            · exact h2 e he
            · obtain rfl : e = b := by simpa using he
              exact ⟨h3, h4⟩
        · rintro (⟨e, he, h1, h2⟩ | ⟨h1, h2⟩)
          · rcases List.mem_append.1 he with he | he
            · refine .inr ⟨.inl ⟨e, he, h1, h2⟩, ?_, fun _ => ?_⟩
              · rw [h2, pl_sh]
                exact lt8_ne (hA2 e he)
              · rw [h2, pl_sh]
                cases hu : und (pl e) (pl b) with
                | false => rfl
                | true =>
                  have := lt8_trans (und_lt hu) (hA2 e he)
                  rw [lt8_irr] at this
                  cases this
            · obtain rfl : e = b := by simpa using he
              exact .inl ⟨h1, h2⟩
          · exact .inr ⟨.inr ⟨h1, fun e he => h2 e (by simp [he])⟩, h2 b (by simp)⟩
  exact key _ l rfl hr hA
theorem sh_tree {e : Ent} (h : rE e = true) (h2 : e.2.1 ≤ 2) : sh e = e := by
  unfold sh
  split
  · rfl
  · have := kind_of h
    exact (dir_eq h (by omega)).symm
theorem sh_right {e : Ent} (h : rE e = true) : rE (sh e) = true ∧ (sh e).2.1 ≤ 2 := by
  unfold sh
  split
  · rename_i h1
    exact ⟨h, by omega⟩
  · refine ⟨rightE_of (rightE_parts h).1 (.inr ⟨⟨show (2 : Int) ≤ 2 by decide, show (2 : Int) ≤ 4 by decide⟩, rfl⟩), show (2 : Int) ≤ 2 by decide⟩
theorem sh_hd {e : Ent} (h : rE e = true) (h3 : e.2.1 ≠ 3) : hd e = hd (sh e) := by
  have := kind_of h
  unfold hd sh
  split
  · rfl
  · rename_i h1
    have : e.2.1 = 2 ∨ e.2.1 = 4 := by omega
    rcases this with h | h <;> rw [h] <;> rfl
/-- What comes is a tree. -/
theorem tr_over {t l : List Ent} (ht : TR t) (hl : RL l) : TR (over t l) := by
  obtain ⟨⟨t1, t2, t3⟩, t4⟩ := ht
  obtain ⟨l1, l2, l3⟩ := hl
  have hm : ∀ x, x ∈ over t l ↔ _ := fun x => mem_over (t := t) l1 l2 (x := x)
  refine ⟨⟨fun x hx => ?_, asc_over t2, fun x hx => ?_⟩, fun x hx => ?_⟩
  · rcases (hm x).1 hx with ⟨e, he, _, rfl⟩ | ⟨h1, _⟩
    · exact (sh_right (l1 e he)).1
    · exact t1 x h1
  · rcases (hm x).1 hx with ⟨e, he, _, rfl⟩ | ⟨h1, h2⟩
    · unfold inD
      rw [pl_sh]
      refine (l3 e he).imp_right ?_
      rintro ⟨d, hd1, hd2, hd3⟩
      have hd9 : d.2.1 ≠ 3 := fun h9 => by unfold hd at hd3; rw [h9] at hd3; cases hd3
      exact ⟨sh d, (hm _).2 (.inl ⟨d, hd1, hd9, rfl⟩), by rw [pl_sh]; exact hd2, by rw [← sh_hd (l1 d hd1) hd9]; exact hd3⟩
    · refine (t3 x h1).imp_right ?_
      rintro ⟨d, hd1, hd2, hd3⟩
      obtain ⟨p1, p2⟩ := rE_isP (t1 x h1)
      by_cases hn : ∃ e ∈ l, pl d = pl e
      · obtain ⟨e, he, hde⟩ := hn
        have hux : und (pl x) (pl e) = true := by rw [und_par9 p1 p2, ← hd2, hde, decide_eq_true rfl, Bool.true_or]
        have hk2 : e.2.1 = 2 := by
          by_cases h2' : e.2.1 = 2
          · exact h2'
          · have := (h2 e he).2 h2'
            rw [hux] at this
            cases this
        refine ⟨sh e, (hm _).2 (.inl ⟨e, he, by omega, rfl⟩), by rw [pl_sh, ← hde]; exact hd2, ?_⟩
        rw [← sh_hd (l1 e he) (by omega)]
        unfold hd
        rw [hk2]
        rfl
      · refine ⟨d, (hm _).2 (.inr ⟨hd1, fun e he => ⟨fun h9 => hn ⟨e, he, h9⟩, fun h2' => ?_⟩⟩), hd2, hd3⟩
        cases hu : und (pl d) (pl e) with
        | false => rfl
        | true =>
          have := (h2 e he).2 h2'
          rw [und_par9 p1 p2, ← hd2, hu, Bool.or_true] at this
          cases this
  · rcases (hm x).1 hx with ⟨e, he, _, rfl⟩ | ⟨h1, _⟩
    · exact (sh_right (l1 e he)).2
    · exact t4 x h1
/-- A layer laid over twice is as laid over once. -/
theorem over_twice {t l : List Ent} (ht : Asc t) (hr : ∀ e ∈ l, rE e = true) (hA : Asc l) : over (over t l) l = over t l := by
  refine asc_ext (asc_over (asc_over ht)) (asc_over ht) fun x => ?_
  rw [mem_over hr hA, mem_over hr hA]
  constructor
  · rintro (h | ⟨h | h, h'⟩)
    · exact .inl h
    · exact .inl h
    · exact .inr h
  · rintro (h | h)
    · exact .inl h
    · exact .inr ⟨.inr h, h.2⟩
/-- A tree, laid over nothing, is itself. -/
theorem over_nil {t : List Ent} (h : TR t) : over [] t = t := by
  refine asc_ext (asc_over List.Pairwise.nil) h.1.2.1 fun x => ?_
  rw [mem_over h.1.1 h.1.2.1]
  constructor
  · rintro (⟨e, he, _, rfl⟩ | ⟨h1, _⟩)
    · rw [sh_tree (h.1.1 e he) (h.2 e he)]
      exact he
    · cases h1
  · intro hx
    exact .inl ⟨x, hx, by have := h.2 x hx; omega, (sh_tree (h.1.1 x hx) (h.2 x hx)).symm⟩
/-- A whiteout alone. -/
theorem over_white (t : List Ent) (p : ByteArray) (d : ByteArray) : over t [(p, 3, d)] = rst t p.data.toList := rfl
theorem over_empty (t : List Ent) : over t [] = t := rfl
/-- What none of a layer's entries names, or lies above, stays. -/
theorem over_keeps {t l : List Ent} (hr : ∀ e ∈ l, rE e = true) (hA : Asc l) {x : Ent} (hx : x ∈ t) (h : ∀ e ∈ l, pl x ≠ pl e ∧ und (pl x) (pl e) = false) : x ∈ over t l := (mem_over hr hA).2 (.inr ⟨hx, fun e he => ⟨(h e he).1, fun _ => (h e he).2⟩⟩)
theorem wth_le (l : List Ent) (e : Ent) : (wth l e).length ≤ l.length + 1 := by
  have key : ∀ m : List Ent, (m.filter (fun a => lt8 (pl a) (pl e))).length + (m.filter (fun a => lt8 (pl e) (pl a))).length ≤ m.length := by
    intro m
    induction m with
    | nil => simp
    | cons x r ih =>
      rw [List.filter_cons, List.filter_cons]
      cases h1 : lt8 (pl x) (pl e) with
      | true =>
        rw [lt8_asymm h1]
        simp
        omega
      | false => cases lt8 (pl e) (pl x) <;> simp <;> omega
  have := key l
  unfold wth
  rw [List.length_append, List.length_cons]
  omega
theorem over1_len (t : List Ent) (e : Ent) : (over1 t e).length ≤ t.length + 1 := by
  have h1 := wth_le t (dE e.1)
  have h2 := wth_le (rst t (pl e)) e
  have h3 := wth_le (rst t (pl e)) (dE e.1)
  have h4 := len_rst t (pl e)
  unfold over1
  split
  · omega
  · split
    · omega
    · split <;> omega
theorem over_len : ∀ (l t : List Ent), (over t l).length ≤ t.length + l.length
  | [], t => by simp [over]
  | e :: r, t => by
    have h1 := over1_len t e
    have h2 := over_len r (over1 t e)
    show (over (over1 t e) r).length ≤ _
    rw [List.length_cons]
    omega
/-- What a stack shows. -/
def stk (s : List (List Ent)) : List Ent := s.foldl over []
theorem stk_snoc (s : List (List Ent)) (l : List Ent) : stk (s ++ [l]) = over (stk s) l := by unfold stk; rw [List.foldl_append]; rfl
theorem tr_nil : TR [] := ⟨rl_nil, by simp⟩
theorem tr_stk {s : List (List Ent)} (h : ∀ l ∈ s, RightL l) : TR (stk s) := by
  have key : ∀ (s : List (List Ent)) (t : List Ent), TR t → (∀ l ∈ s, RightL l) → TR (s.foldl over t) := by
    intro s
    induction s with
    | nil => intro t ht _; exact ht
    | cons l r ih => intro t ht h; exact ih _ (tr_over ht (h l (by simp)).2) fun m hm => h m (by simp [hm])
  exact key s [] tr_nil h
theorem stk_len {s : List (List Ent)} (h : ∀ l ∈ s, RightL l) : (stk s).length ≤ 64 * s.length := by
  have key : ∀ (s : List (List Ent)) (t : List Ent), (∀ l ∈ s, RightL l) → (s.foldl over t).length ≤ t.length + 64 * s.length := by
    intro s
    induction s with
    | nil => intro t _; simp
    | cons l r ih =>
      intro t h
      have h1 := ih (over t l) fun m hm => h m (by simp [hm])
      have h2 := over_len l t
      have h3 := (h l (by simp)).1
      rw [List.foldl_cons, List.length_cons]
      omega
  have := key s [] h
  rw [List.length_nil, Nat.zero_add] at this
  exact this
theorem stk_insert (a b : List (List Ent)) : stk (a ++ [] :: b) = stk (a ++ b) := by
  unfold stk
  rw [List.foldl_append, List.foldl_append]
  rfl
theorem par9_isP {p : List UInt8} (h : isP p) (h1 : p ≠ [47]) : isP (par9 p) ∧ (par9 p).length < p.length := by
  obtain ⟨ms, x, a1, _, _, _, a5⟩ := par9_parts h h1
  refine ⟨by rw [a5]; exact isP_pth a1, ?_⟩
  have h2 := und_par9 (q := par9 p) h h1
  rw [decide_eq_true rfl, Bool.true_or] at h2
  exact (und_longer h2).2
end Go.Proofs.YtlnjbadbpddlmaaDoor

namespace Go.Proofs.YtlnjbadbpddlmaaDoor
open Go.RowKit

/-- What lies at a path: the error, the kind. -/
def kdV (t : List Ent) (p : List UInt8) : Int × Int :=
  if ¬ isP p then (2, 0) else if p = [47] then (0, 2) else match fnd t p with
    | none => (3, 0)
    | some e => (0, e.2.1)
/-- Why nothing can be put at a path; 0: it can. -/
def plcV (t : List Ent) (p : List UInt8) : Int :=
  if ¬ isP p then 2 else if p = [47] then 1 else if (kdV t (par9 p)).1 ≠ 0 then (kdV t (par9 p)).1 else if (kdV t (par9 p)).2 ≠ 2 then 6 else if (fnd t p).isSome = true then 4 else 0
/-- Why there is no file at a path; 0: there is. -/
def flV (t : List Ent) (p : List UInt8) : Int :=
  if ¬ isP p then 2 else if p = [47] then 1 else match fnd t p with
    | none => 3
    | some e => if e.2.1 = 2 then 5 else 0
/-- The data at a path. -/
def datV (t : List Ent) (p : List UInt8) : ByteArray := match fnd t p with
  | none => ⟨#[]⟩
  | some e => e.2.2
/-- Read: the error, the data. -/
def rdV (t : List Ent) (p : List UInt8) : Int × ByteArray :=
  if (kdV t p).1 ≠ 0 then ((kdV t p).1, ⟨#[]⟩) else if (kdV t p).2 = 2 then (5, ⟨#[]⟩) else (0, datV t p)
/-- A tree that is put together: too great, or it. -/
def upTo (t : List Ent) : Int × List Ent := if 1024 < t.length then (9, []) else (0, t)
/-- Create, Mkdir. -/
def mkV (t : List Ent) (p : ByteArray) (k : Int) : Int × List Ent := if plcV t p.data.toList ≠ 0 then (plcV t p.data.toList, []) else upTo (wth t (p, k, ⟨#[]⟩))
/-- Bytes, so many, zeros behind. -/
def padL (s : List UInt8) (n : Nat) : List UInt8 := (s ++ List.replicate (n - s.length) 0).take n
/-- Data with a text from a place on. -/
def wrtL (s : List UInt8) (n : Nat) (x : List UInt8) : List UInt8 := padL s n ++ x ++ s.drop (n + x.length)
/-- Write. -/
def wrV (t : List Ent) (p : ByteArray) (n : Int) (s : ByteArray) : Int × List Ent :=
  if flV t p.data.toList ≠ 0 then (flV t p.data.toList, []) else if n < 0 ∨ 256 < n + s.size then (15, []) else (0, wth t (p, 1, ⟨(wrtL (datV t p.data.toList).data.toList n.toNat s.data.toList).toArray⟩))
/-- Cut. -/
def ctV (t : List Ent) (p : ByteArray) (n : Int) : Int × List Ent :=
  if flV t p.data.toList ≠ 0 then (flV t p.data.toList, []) else if n < 0 ∨ 256 < n then (15, []) else (0, wth t (p, 1, ⟨(padL (datV t p.data.toList).data.toList n.toNat).toArray⟩))
/-- Unlink. -/
def ulV (t : List Ent) (p : List UInt8) : Int × List Ent := if flV t p ≠ 0 then (flV t p, []) else (0, wout t p)
/-- Rmdir. -/
def rmV (t : List Ent) (p : List UInt8) : Int × List Ent :=
  if ¬ isP p then (2, []) else if p = [47] then (1, []) else match fnd t p with
    | none => (3, [])
    | some e => if e.2.1 ≠ 2 then (6, []) else if (t.any fun x => und (pl x) p) = true then (7, []) else (0, wout t p)
/-- Rename. -/
def rnV (t : List Ent) (p q : ByteArray) : Int × List Ent :=
  if flV t p.data.toList ≠ 0 then (flV t p.data.toList, []) else if plcV t q.data.toList ≠ 0 then (plcV t q.data.toList, []) else (0, wth (wout t p.data.toList) (q, 1, datV t p.data.toList))

/-- With an entry whose directory is there, and which takes no directory's place but as one. -/
theorem tr_wth {t : List Ent} {e : Ent} (ht : TR t) (he : rE e = true) (h2 : e.2.1 ≤ 2) (hin : inD t e) (hx : ∀ x ∈ t, pl x = pl e → hd x = true → hd e = true) : TR (wth t e) := by
  obtain ⟨⟨t1, t2, t3⟩, t4⟩ := ht
  have up : ∀ x : Ent, inD t x → inD (wth t e) x := fun x h => by
    refine h.imp_right ?_
    rintro ⟨d, hd1, hd2, hd3⟩
    by_cases hp : pl d = pl e
    · exact ⟨e, mem_wth.2 (.inl rfl), hp ▸ hd2, hx d hd1 hp hd3⟩
    · exact ⟨d, mem_wth.2 (.inr ⟨hd1, hp⟩), hd2, hd3⟩
  refine ⟨⟨fun x hx => ?_, asc_wth t2 e, fun x hx => ?_⟩, fun x hx => ?_⟩
  · rcases mem_wth.1 hx with rfl | ⟨h, _⟩
    · exact he
    · exact t1 x h
  · rcases mem_wth.1 hx with rfl | ⟨h, _⟩
    · exact up _ hin
    · exact up x (t3 x h)
  · rcases mem_wth.1 hx with rfl | ⟨h, _⟩
    · exact h2
    · exact t4 x h
/-- Where an entry lies under a path, a directory lies at that path. -/
theorem tr_above {t : List Ent} (ht : TR t) {p : List UInt8} (hp : p ≠ [47]) : ∀ n, ∀ x ∈ t, (pl x).length = n → und (pl x) p = true → ∃ d ∈ t, pl d = p ∧ hd d = true := by
  intro n
  induction n using Nat.strongRecOn with
  | _ n ih =>
    intro x hx hn hu
    obtain ⟨p1, p2⟩ := rE_isP (ht.1.1 x hx)
    rw [und_par9 p1 p2, Bool.or_eq_true, decide_eq_true_iff] at hu
    rcases ht.1.2.2 x hx with h | ⟨d, hd1, hd2, hd3⟩
    · rw [h] at hu
      rcases hu with hu | hu
      · exact absurd hu hp
      · obtain ⟨_, h2⟩ := und_longer hu
        have h3 : isP p := by
          unfold und at hu
          exact (of_decide_eq_true hu).2.1
        have h4 := h3.1
        cases p with
        | nil => simp at h4
        | cons c r => simp at h2
    · rcases hu with hu | hu
      · exact ⟨d, hd1, hd2.trans hu.symm, hd3⟩
      · rw [← hd2] at hu
        have h1 := par9_lt p1 p2
        have h2 := und_par9 (q := par9 (pl x)) p1 p2
        rw [decide_eq_true rfl, Bool.true_or] at h2
        have h3 := (und_longer h2).2
        rw [← hd2] at h3
        exact ih _ (by omega) d hd1 rfl hu
theorem tr_under_file {t : List Ent} (ht : TR t) {p : List UInt8} (hp : p ≠ [47]) (hf : ∀ d ∈ t, pl d = p → hd d = false) : ∀ x ∈ t, und (pl x) p = false := fun x hx => by
  cases hu : und (pl x) p with
  | false => rfl
  | true =>
    obtain ⟨d, h1, h2, h3⟩ := tr_above ht hp _ x hx rfl hu
    rw [hf d h1 h2] at h3
    cases h3
/-- Without an entry under which nothing lies. -/
theorem tr_wout {t : List Ent} (ht : TR t) {p : List UInt8} (hu : ∀ x ∈ t, und (pl x) p = false) : TR (wout t p) := by
  obtain ⟨⟨t1, t2, t3⟩, t4⟩ := ht
  have hm : ∀ x, x ∈ wout t p ↔ x ∈ t ∧ pl x ≠ p := fun x => by unfold wout; rw [List.mem_filter, decide_eq_true_iff]
  refine ⟨⟨fun x hx => t1 x ((hm x).1 hx).1, t2.filter _, fun x hx => ?_⟩, fun x hx => t4 x ((hm x).1 hx).1⟩
  have hx := ((hm x).1 hx).1
  refine (t3 x hx).imp_right ?_
  rintro ⟨d, hd1, hd2, hd3⟩
  refine ⟨d, (hm d).2 ⟨hd1, fun e => ?_⟩, hd2, hd3⟩
  obtain ⟨p1, p2⟩ := rE_isP (t1 x hx)
  have h1 := hu x hx
  rw [und_par9 p1 p2, ← hd2, e, decide_eq_true rfl, Bool.true_or] at h1
  cases h1
theorem wout_none {t : List Ent} {p : List UInt8} (h : fnd t p = none) : wout t p = t := by
  unfold wout
  exact List.filter_eq_self.2 fun e he => by simpa using fnd_none.1 h e he
theorem mem_wout {t : List Ent} {p : List UInt8} {x : Ent} : x ∈ wout t p ↔ x ∈ t ∧ pl x ≠ p := by unfold wout; rw [List.mem_filter, decide_eq_true_iff]
theorem asc_wout {t : List Ent} (h : Asc t) (p : List UInt8) : Asc (wout t p) := h.filter _
theorem wout_wth {t : List Ent} (h : Asc t) (e : Ent) : wout (wth t e) (pl e) = wout t (pl e) := by
  refine asc_ext (asc_wout (asc_wth h e) _) (asc_wout h _) fun x => ?_
  rw [mem_wout, mem_wout, mem_wth]
  constructor
  · rintro ⟨rfl | ⟨h1, _⟩, h2⟩
    · exact absurd rfl h2
    · exact ⟨h1, h2⟩
  · rintro ⟨h1, h2⟩
    exact ⟨.inr ⟨h1, h2⟩, h2⟩
theorem wth_wth {t : List Ent} (h : Asc t) {e f : Ent} (hp : pl f = pl e) : wth (wth t e) f = wth t f := by
  refine asc_ext (asc_wth (asc_wth h e) f) (asc_wth h f) fun x => ?_
  rw [mem_wth, mem_wth, mem_wth]
  constructor
  · rintro (h1 | ⟨h1 | h1, h2⟩)
    · exact .inl h1
    · exact absurd (h1 ▸ hp.symm) h2
    · exact .inr ⟨h1.1, h2⟩
  · rintro (h1 | ⟨h1, h2⟩)
    · exact .inl h1
    · exact .inr ⟨.inr ⟨h1, fun e0 => h2 (e0.trans hp.symm)⟩, h2⟩
theorem wth_wout {t : List Ent} (h : Asc t) (e : Ent) : wth (wout t (pl e)) e = wth t e := by
  refine asc_ext (asc_wth (asc_wout h _) e) (asc_wth h e) fun x => ?_
  rw [mem_wth, mem_wth, mem_wout]
  constructor
  · rintro (h1 | ⟨⟨h1, _⟩, h2⟩)
    · exact .inl h1
    · exact .inr ⟨h1, h2⟩
  · rintro (h1 | ⟨h1, h2⟩)
    · exact .inl h1
    · exact .inr ⟨⟨h1, h2⟩, h2⟩
theorem len_wth {t : List Ent} (h : Asc t) {e x : Ent} (hx : fnd t (pl e) = some x) : (wth t e).length = t.length := by
  have h1 := len_wout h hx
  have h2 := wth_le (wout t (pl e)) e
  have h3 := len_wout (asc_wth h e) (p := pl e) (e := e) ((fnd_some (asc_wth h e)).2 ⟨mem_wth.2 (.inl rfl), rfl⟩)
  rw [wout_wth h] at h3
  omega
/-- A path's directory: what plcV asks. -/
theorem plcV_ok {t : List Ent} (ht : Asc t) {p : List UInt8} (h : plcV t p = 0) : isP p ∧ p ≠ [47] ∧ (par9 p = [47] ∨ ∃ d ∈ t, pl d = par9 p ∧ d.2.1 = 2) ∧ fnd t p = none := by
  unfold plcV at h
  by_cases h1 : isP p
  · rw [if_neg (not_not_intro h1)] at h
    by_cases h2 : p = [47]
    · rw [if_pos h2] at h; omega
    · rw [if_neg h2] at h
      by_cases h3 : (kdV t (par9 p)).1 ≠ 0
      · rw [if_pos h3] at h; omega
      · rw [if_neg h3] at h
        by_cases h4 : (kdV t (par9 p)).2 ≠ 2
        · rw [if_pos h4] at h; omega
        · rw [if_neg h4] at h
          by_cases h5 : (fnd t p).isSome = true
          · rw [if_pos h5] at h; omega
          · refine ⟨h1, h2, ?_, by simpa using h5⟩
            by_cases h6 : par9 p = [47]
            · exact .inl h6
            · right
              have h7 : isP (par9 p) := by
                obtain ⟨ms, x, a1, _, _, _, a5⟩ := par9_parts h1 h2
                rw [a5]
                exact isP_pth a1
              unfold kdV at h3 h4
              rw [if_neg (not_not_intro h7), if_neg h6] at h3 h4
              cases hf : fnd t (par9 p) with
              | none => rw [hf] at h3; simp at h3
              | some d =>
                rw [hf] at h4
                obtain ⟨h8, h9⟩ := (fnd_some ht).1 hf
                exact ⟨d, h8, h9, by simpa using h4⟩
  · rw [if_pos h1] at h; omega
theorem hd_two {d : Ent} (h : d.2.1 = 2) : hd d = true := by unfold hd; rw [h]; rfl
theorem hd_tree11 {t : List Ent} (ht : TR t) {d : Ent} (hd1 : d ∈ t) : hd d = true ↔ d.2.1 = 2 := by
  have := ht.2 d hd1
  unfold hd
  rw [Bool.or_eq_true, beq_iff_eq, beq_iff_eq]
  omega
theorem plcV_in {t : List Ent} (ht : Asc t) {p : List UInt8} (h : plcV t p = 0) {e : Ent} (he : pl e = p) : inD t e := by
  obtain ⟨_, _, h3, _⟩ := plcV_ok ht h
  unfold inD
  rw [he]
  exact h3.imp_right fun ⟨d, h4, h5, h6⟩ => ⟨d, h4, h5, hd_two h6⟩
/-- Where nothing stands in the way. -/
theorem plcV_zero {t : List Ent} (ht : Asc t) {p : List UInt8} (h1 : isP p) (h2 : p ≠ [47]) (h3 : par9 p = [47] ∨ ∃ d ∈ t, pl d = par9 p ∧ d.2.1 = 2) (h4 : fnd t p = none) : plcV t p = 0 := by
  unfold plcV
  rw [if_neg (not_not_intro h1), if_neg h2]
  have h7 : isP (par9 p) := by
    obtain ⟨ms, x, a1, _, _, _, a5⟩ := par9_parts h1 h2
    rw [a5]
    exact isP_pth a1
  have h5 : kdV t (par9 p) = (0, 2) := by
    unfold kdV
    rw [if_neg (not_not_intro h7)]
    by_cases h6 : par9 p = [47]
    · rw [if_pos h6]
    · rw [if_neg h6]
      rcases h3 with h3 | ⟨d, h8, h9, h10⟩
      · exact absurd h3 h6
      · rw [(fnd_some ht).2 ⟨h8, h9⟩]
        simp [h10]
  rw [h5, h4]
  simp
theorem flV_ok {t : List Ent} (ht : TR t) {p : List UInt8} (h : flV t p = 0) : isP p ∧ p ≠ [47] ∧ ∃ e ∈ t, pl e = p ∧ e.2.1 = 1 ∧ fnd t p = some e ∧ datV t p = e.2.2 := by
  unfold flV at h
  by_cases h1 : isP p
  · rw [if_neg (not_not_intro h1)] at h
    by_cases h2 : p = [47]
    · rw [if_pos h2] at h; omega
    · rw [if_neg h2] at h
      cases hf : fnd t p with
      | none => rw [hf] at h; simp at h
      | some e =>
        rw [hf] at h
        obtain ⟨h8, h9⟩ := (fnd_some ht.1.2.1).1 hf
        have hk := kind_of (ht.1.1 e h8)
        have h2' := ht.2 e h8
        refine ⟨h1, h2, e, h8, h9, ?_, rfl, by unfold datV; rw [hf]⟩
        by_cases h5 : e.2.1 = 2
        · simp [h5] at h
        · omega
  · rw [if_pos h1] at h; omega
theorem flV_zero {t : List Ent} (ht : Asc t) {p : List UInt8} {e : Ent} (h1 : isP p) (h2 : p ≠ [47]) (he : e ∈ t) (hp : pl e = p) (hk : e.2.1 = 1) : flV t p = 0 ∧ datV t p = e.2.2 ∧ kdV t p = (0, 1) ∧ rdV t p = (0, e.2.2) := by
  have hf := (fnd_some ht).2 ⟨he, hp⟩
  have hd : datV t p = e.2.2 := by unfold datV; rw [hf]
  have hkd : kdV t p = (0, 1) := by unfold kdV; rw [if_neg (not_not_intro h1), if_neg h2, hf]; simp [hk]
  refine ⟨?_, hd, hkd, ?_⟩
  · unfold flV
    rw [if_neg (not_not_intro h1), if_neg h2, hf]
    simp [hk]
  · unfold rdV
    rw [hkd, hd]
    simp
/-- A right file. -/
theorem rE_file {p s : ByteArray} (h1 : isP p.data.toList) (h2 : p.data.toList ≠ [47]) (hs : s.size ≤ 256) : rE (p, 1, s) = true := by
  refine rightE_of ?_ (.inl ⟨rfl, hs⟩)
  rw [dp_pos h1]
  have : pcs p.data.toList ≠ [] := fun e => h2 ((pcs_nil h1).1 e)
  have := List.length_pos_iff.2 this
  omega
theorem rE_dir {p : ByteArray} (h1 : isP p.data.toList) (h2 : p.data.toList ≠ [47]) : rE (p, 2, ⟨#[]⟩) = true := by
  refine rightE_of ?_ (.inr ⟨⟨(show (2 : Int) ≤ 2 by decide), (show (2 : Int) ≤ 4 by decide)⟩, rfl⟩)
  rw [dp_pos h1]
  have : pcs p.data.toList ≠ [] := fun e => h2 ((pcs_nil h1).1 e)
  have := List.length_pos_iff.2 this
  omega
end Go.Proofs.YtlnjbadbpddlmaaDoor

namespace Go.Proofs.YtlnjbadbpddlmaaDoor
open Go.RowKit

/-- The directory at a path, told by its bytes. -/
def dP (p : List UInt8) : Ent := dE ⟨p.toArray⟩
/-- No entry. -/
def noE : Ent := (⟨#[]⟩, 0, ⟨#[]⟩)
/-- The layer of a number. -/
def layN (S : List (List Ent)) (n : Nat) : List Ent := S.getD n []
/-- The layers below n, from f on, laid upwards: what lies at a path, and the layer from which on it does. -/
def up12 (S : List (List Ent)) (p : List UInt8) (f : Nat) : Nat → Option (Ent × Nat)
  | 0 => none
  | n + 1 => if n < f then none else match fnd (layN S n) p with
    | none => up12 S p f n
    | some e => if e.2.1 = 1 then some (e, n) else if e.2.1 = 4 then some (dP p, n) else if e.2.1 = 2 then (match up12 S p f n with
        | some (x, j) => if x.2.1 = 2 then some (dP p, j) else some (dP p, n)
        | none => some (dP p, n)) else none
/-- The layers below n, down to f, asked downwards; m: where a directory was met. -/
def ask12 (S : List (List Ent)) (p : List UInt8) (f : Nat) : Nat → Option Nat → Option (Ent × Nat)
  | 0, m => m.map fun i => (dP p, i)
  | n + 1, m => if n < f then m.map fun i => (dP p, i) else match fnd (layN S n) p with
    | none => ask12 S p f n m
    | some e => if e.2.1 = 2 then ask12 S p f n (some n) else if e.2.1 = 4 then some (dP p, n) else match m with
      | some i => some (dP p, i)
      | none => if e.2.1 = 1 then some (e, n) else none
/-- What was met, and else. -/
def met12 (p : List UInt8) (i : Nat) : Option (Ent × Nat) → Option (Ent × Nat)
  | some (x, j) => if x.2.1 = 2 then some (dP p, j) else some (dP p, i)
  | none => some (dP p, i)
theorem ask_up (S : List (List Ent)) (p : List UInt8) (f : Nat) : ∀ n, ask12 S p f n none = up12 S p f n ∧ ∀ i, ask12 S p f n (some i) = met12 p i (up12 S p f n)
  | 0 => ⟨rfl, fun _ => rfl⟩
  | n + 1 => by
    obtain ⟨h1, h2⟩ := ask_up S p f n
    by_cases hf : n < f
    · constructor
      · rw [ask12, up12, if_pos hf, if_pos hf]
        rfl
      · intro i
        rw [ask12, up12, if_pos hf, if_pos hf]
        rfl
    · rw [up12, if_neg hf]
      cases hl : fnd (layN S n) p with
      | none =>
        constructor
        · rw [ask12, if_neg hf, hl]
          exact h1
        · intro i
          rw [ask12, if_neg hf, hl]
          exact h2 i
      | some e =>
        by_cases k2 : e.2.1 = 2
        · have k1 : ¬ e.2.1 = 1 := by omega
          have k4 : ¬ e.2.1 = 4 := by omega
          simp only [if_neg k1, if_neg k4, if_pos k2]
          constructor
          · rw [ask12, if_neg hf, hl]
            simp only [if_pos k2]
            rw [h2 n]
            unfold met12
            cases up12 S p f n with
            | none => rfl
            | some z => rfl
          · intro i
            rw [ask12, if_neg hf, hl]
            simp only [if_pos k2]
            rw [h2 n]
            cases up12 S p f n with
            | none => rfl
            | some z =>
              obtain ⟨x, j⟩ := z
              unfold met12
              by_cases hx : x.2.1 = 2
              · simp only [if_pos hx]; rfl
              · simp only [if_neg hx]; rfl
        · by_cases k4 : e.2.1 = 4
          · have k1 : ¬ e.2.1 = 1 := by omega
            simp only [if_neg k1, if_pos k4]
            constructor
            · rw [ask12, if_neg hf, hl]
              simp only [if_neg k2, if_pos k4]
            · intro i
              rw [ask12, if_neg hf, hl]
              simp only [if_neg k2, if_pos k4]
              rfl
          · simp only [if_neg k4, if_neg k2]
            by_cases k1 : e.2.1 = 1
            · simp only [if_pos k1]
              constructor
              · rw [ask12, if_neg hf, hl]
                simp only [if_neg k2, if_neg k4, if_pos k1]
              · intro i
                rw [ask12, if_neg hf, hl]
                simp only [if_neg k2, if_neg k4]
                unfold met12
                simp only [if_neg k2]
            · simp only [if_neg k1]
              constructor
              · rw [ask12, if_neg hf, hl]
                simp only [if_neg k2, if_neg k4, if_neg k1]
              · intro i
                rw [ask12, if_neg hf, hl]
                simp only [if_neg k2, if_neg k4]
                rfl
/-- What lies at a path: the error, the entry, the floor. -/
def at12 (S : List (List Ent)) : Nat → List UInt8 → Int × Ent × Nat
  | 0, _ => (0, dP [47], 0)
  | n + 1, p => if p = [47] then (0, dP [47], 0) else
    if (at12 S n (par9 p)).1 ≠ 0 then ((at12 S n (par9 p)).1, noE, 0) else if (at12 S n (par9 p)).2.1.2.1 ≠ 2 then (6, noE, 0) else
    match up12 S p (at12 S n (par9 p)).2.2 S.length with
    | none => (3, noE, 0)
    | some (e, j) => (0, e, j)
/-- The same of a tree. -/
def atT (t : List Ent) : Nat → List UInt8 → Int × Ent
  | 0, _ => (0, dP [47])
  | n + 1, p => if p = [47] then (0, dP [47]) else
    if (atT t n (par9 p)).1 ≠ 0 then ((atT t n (par9 p)).1, noE) else if (atT t n (par9 p)).2.2.1 ≠ 2 then (6, noE) else
    match fnd t p with
    | none => (3, noE)
    | some e => (0, e)
theorem layN_mem {S : List (List Ent)} {n : Nat} (h : n < S.length) : layN S n ∈ S := by
  unfold layN
  rw [List.getD_eq_getElem?_getD, List.getElem?_eq_getElem h]
  exact List.getElem_mem h
theorem take_lay {S : List (List Ent)} {n : Nat} (h : n < S.length) : S.take (n + 1) = S.take n ++ [layN S n] := by
  unfold layN
  rw [List.take_add_one, List.getD_eq_getElem?_getD, List.getElem?_eq_getElem h]
  rfl
theorem stk_take {S : List (List Ent)} {n : Nat} (h : n < S.length) : stk (S.take (n + 1)) = over (stk (S.take n)) (layN S n) := by
  rw [take_lay h, stk_snoc]
theorem tr_take12 {S : List (List Ent)} (hS : ∀ l ∈ S, RightL l) (n : Nat) : TR (stk (S.take n)) := tr_stk fun l hl => hS l (List.mem_of_mem_take hl)
theorem path_eq {e : Ent} {p : List UInt8} (h : pl e = p) : e.1 = ⟨p.toArray⟩ := ba_ext (by simpa using h)
theorem sh_dP {e : Ent} {p : List UInt8} (h : pl e = p) (h1 : ¬ e.2.1 = 1) : sh e = dP p := by
  unfold sh dP
  rw [if_neg h1, path_eq h]
theorem pl_dP (p : List UInt8) : pl (dP p) = p := by
  show (⟨p.toArray⟩ : ByteArray).data.toList = p
  simp
theorem dP_kind (p : List UInt8) : (dP p).2.1 = 2 := rfl
theorem tr_dir {t : List Ent} (ht : TR t) {x : Ent} (hx : x ∈ t) (hk : x.2.1 = 2) : x = dP (pl x) := by
  have := dir_eq (ht.1.1 x hx) hk
  rw [this]
  unfold dP
  rw [← path_eq rfl]
  rfl
/-- What lies at a path behind a layer none of whose entries hides it from above. -/
theorem fnd_over {t l : List Ent} (ht : TR t) (hl : RL l) {p : List UInt8} (hh : ∀ e ∈ l, e.2.1 ≠ 2 → und p (pl e) = false) :
    fnd (over t l) p = match fnd l p with
      | none => fnd t p
      | some e => if e.2.1 = 3 then none else some (sh e) := by
  have hm := fun x => mem_over (t := t) hl.1 hl.2.1 (x := x)
  have hA := asc_over (l := l) ht.1.2.1
  cases h : fnd l p with
  | none =>
    have hn := fnd_none.1 h
    cases h9 : fnd t p with
    | none =>
      refine fnd_none.2 fun x hx hp => ?_
      rcases (hm x).1 hx with ⟨e, he, _, rfl⟩ | ⟨h1, _⟩
      · rw [pl_sh] at hp
        exact hn e he hp
      · exact fnd_none.1 h9 x h1 hp
    | some x =>
      obtain ⟨h1, h2⟩ := (fnd_some ht.1.2.1).1 h9
      refine (fnd_some hA).2 ⟨(hm x).2 (.inr ⟨h1, fun e he => ⟨fun h3 => hn e he (h3.symm.trans h2), fun h3 => ?_⟩⟩), h2⟩
      rw [h2]
      exact hh e he h3
  | some e =>
    obtain ⟨he, hp⟩ := (fnd_some hl.2.1).1 h
    by_cases k3 : e.2.1 = 3
    · simp only [if_pos k3]
      refine fnd_none.2 fun x hx hxp => ?_
      rcases (hm x).1 hx with ⟨d, hd, hd3, rfl⟩ | ⟨_, h2⟩
      · rw [pl_sh] at hxp
        exact hd3 (by rw [asc_inj hl.2.1 hd he (hxp.trans hp.symm)]; exact k3)
      · exact (h2 e he).1 (hxp.trans hp.symm)
    · simp only [if_neg k3]
      exact (fnd_some hA).2 ⟨(hm _).2 (.inl ⟨e, he, k3, rfl⟩), (pl_sh e).trans hp⟩
/-- A directory of a stack, and its floor: from there on none of its kind, or above, is hidden; what lies under it stands there alone. -/
def Flo (S : List (List Ent)) (q : List UInt8) (f : Nat) : Prop :=
  (f < S.length ∨ q = [47] ∧ f = 0) ∧
  (f < S.length → ∀ x ∈ stk (S.take (f + 1)), und (pl x) q = true → ∃ e ∈ layN S f, e.2.1 ≠ 3 ∧ x = sh e) ∧
  (∀ i, f < i → i < S.length → ∀ e ∈ layN S i, e.2.1 ≠ 2 → pl e ≠ q ∧ und q (pl e) = false)
theorem flo_root (S : List (List Ent)) (hS : ∀ l ∈ S, RightL l) : Flo S [47] 0 := by
  refine ⟨?_, fun h x hx _ => ?_, fun i _ hi e he _ => ⟨?_, ?_⟩⟩
  · exact .inr ⟨rfl, rfl⟩
  · rw [stk_take h, List.take_zero] at hx
    have hl := (hS _ (layN_mem h)).2
    rcases (mem_over hl.1 hl.2.1).1 hx with h1 | ⟨h1, _⟩
    · exact h1
    · cases h1
  · exact (rE_isP ((hS _ (layN_mem hi)).2.1 e he)).2
  · cases hu : und [47] (pl e) with
    | false => rfl
    | true =>
      have h1 := (und_longer hu).2
      have h2 := (rE_isP ((hS _ (layN_mem hi)).2.1 e he)).1.1
      cases h3 : pl e with
      | nil => rw [h3] at h2; simp at h2
      | cons c r => rw [h3] at h1; simp at h1
/-- The layers from the floor on: what lies in the directory. -/
theorem up_fnd {S : List (List Ent)} (hS : ∀ l ∈ S, RightL l) {p : List UInt8} {f : Nat} (hp : isP p) (hp1 : p ≠ [47]) (hF : Flo S (par9 p) f) : ∀ n, f < n → n ≤ S.length → (up12 S p f n).map (·.1) = fnd (stk (S.take n)) p
  | 0, h, _ => by omega
  | n + 1, h, hn => by
    have hl := (hS _ (layN_mem (show n < S.length by omega))).2
    have ht := tr_take12 hS n
    rw [up12, if_neg (by omega), stk_take (by omega)]
    by_cases hnf : n = f
    · subst hnf
      have hu : up12 S p n n = none := by
        cases n with
        | zero => rfl
        | succ m => rw [up12, if_pos (by omega)]
      have hA := asc_over (l := layN S n) ht.1.2.1
      have hm := fun x => mem_over (t := stk (S.take n)) hl.1 hl.2.1 (x := x)
      have hP := hF.2.1 (by omega)
      rw [stk_take (by omega)] at hP
      rw [hu]
      have hupar : und p (par9 p) = true := by rw [und_par9 hp hp1, decide_eq_true rfl, Bool.true_or]
      cases h9 : fnd (layN S n) p with
      | none =>
        have hn9 := fnd_none.1 h9
        refine (fnd_none.2 fun x hx hxp => ?_).symm
        obtain ⟨e, he, _, rfl⟩ := hP x hx (by rw [hxp]; exact hupar)
        rw [pl_sh] at hxp
        exact hn9 e he hxp
      | some e =>
        obtain ⟨he, hep⟩ := (fnd_some hl.2.1).1 h9
        have hk := kind_of (hl.1 e he)
        by_cases k3 : e.2.1 = 3
        · simp only [if_neg (show ¬ e.2.1 = 1 by omega), if_neg (show ¬ e.2.1 = 4 by omega), if_neg (show ¬ e.2.1 = 2 by omega)]
          refine (fnd_none.2 fun x hx hxp => ?_).symm
          rcases (hm x).1 hx with ⟨d, hd, hd3, rfl⟩ | ⟨_, h2⟩
          · rw [pl_sh] at hxp
            exact hd3 (by rw [asc_inj hl.2.1 hd he (hxp.trans hep.symm)]; exact k3)
          · exact (h2 e he).1 (hxp.trans hep.symm)
        · have hsh : fnd (over (stk (S.take n)) (layN S n)) p = some (sh e) := (fnd_some hA).2 ⟨(hm _).2 (.inl ⟨e, he, k3, rfl⟩), (pl_sh e).trans hep⟩
          rw [hsh]
          by_cases k1 : e.2.1 = 1
          · simp only [if_pos k1]
            unfold sh
            rw [if_pos k1]
            rfl
          · rw [sh_dP hep k1]
            by_cases k4 : e.2.1 = 4
            · simp only [if_neg k1, if_pos k4]
              rfl
            · simp only [if_neg k1, if_neg k4, if_pos (show e.2.1 = 2 by omega)]
              rfl
    · have ih := up_fnd hS hp hp1 hF n (by omega) (by omega)
      rw [fnd_over ht hl fun e he h2 => by
        obtain ⟨h3, h4⟩ := hF.2.2 n (by omega) (by omega) e he h2
        rw [und_par9 hp hp1, h4, Bool.or_false, decide_eq_false_iff_not]
        exact h3]
      cases h9 : fnd (layN S n) p with
      | none => exact ih
      | some e =>
        obtain ⟨he, hep⟩ := (fnd_some hl.2.1).1 h9
        have hk := kind_of (hl.1 e he)
        by_cases k1 : e.2.1 = 1
        · simp only [if_pos k1, if_neg (show ¬ e.2.1 = 3 by omega)]
          unfold sh
          rw [if_pos k1]
          rfl
        · by_cases k3 : e.2.1 = 3
          · simp only [if_pos k3, if_neg k1, if_neg (show ¬ e.2.1 = 4 by omega), if_neg (show ¬ e.2.1 = 2 by omega)]
            rfl
          · simp only [if_neg k3, if_neg k1]
            rw [sh_dP hep k1]
            by_cases k4 : e.2.1 = 4
            · simp only [if_pos k4]
              rfl
            · simp only [if_neg k4, if_pos (show e.2.1 = 2 by omega)]
              cases up12 S p f n with
              | none => rfl
              | some z =>
                obtain ⟨x, j⟩ := z
                by_cases hx : x.2.1 = 2
                · simp only [if_pos hx]
                  rfl
                · simp only [if_neg hx]
                  rfl
theorem und_trans12 {p q r : List UInt8} (h1 : und p q = true) (h2 : und q r = true) : und p r = true := by
  rw [und_iff] at *
  refine ⟨h1.1, h2.2.1, h2.2.2.1.trans h1.2.2.1, fun e => h2.2.2.2 (h2.2.2.1.eq_of_length ?_)⟩
  have e1 := h2.2.2.1.length_le
  have e2 := h1.2.2.1.length_le
  rw [← e] at e2
  omega
/-- Whence what lies at a path comes. -/
theorem up_from {S : List (List Ent)} {p : List UInt8} {f : Nat} : ∀ n {e : Ent} {j : Nat}, up12 S p f n = some (e, j) →
    f ≤ j ∧ j < n ∧ (e.2.1 = 1 ∧ fnd (layN S j) p = some e ∨ e = dP p ∧ ∃ d, fnd (layN S j) p = some d ∧ (d.2.1 = 4 ∨ d.2.1 = 2 ∧ ∀ x i, up12 S p f j = some (x, i) → x.2.1 ≠ 2)) ∧ (∀ i, j < i → i < n → ∀ d, fnd (layN S i) p = some d → d.2.1 = 2)
  | 0, _, _, h => by cases h
  | n + 1, e, j, h => by
    rw [up12] at h
    by_cases hf : n < f
    · rw [if_pos hf] at h
      cases h
    · rw [if_neg hf] at h
      cases hl : fnd (layN S n) p with
      | none =>
        rw [hl] at h
        obtain ⟨h1, h2, h3, h4⟩ := up_from n h
        refine ⟨h1, by omega, h3, fun i hi hin d hd => ?_⟩
        rcases Nat.lt_or_ge i n with h5 | h5
        · exact h4 i hi h5 d hd
        · obtain rfl : i = n := by omega
          rw [hl] at hd
          cases hd
      | some d =>
        rw [hl] at h
        simp only at h
        by_cases k1 : d.2.1 = 1
        · rw [if_pos k1] at h
          simp only [Option.some.injEq, Prod.mk.injEq] at h
          obtain ⟨rfl, rfl⟩ := h
          exact ⟨by omega, by omega, .inl ⟨k1, hl⟩, fun i hi hin => by omega⟩
        · rw [if_neg k1] at h
          by_cases k4 : d.2.1 = 4
          · rw [if_pos k4] at h
            simp only [Option.some.injEq, Prod.mk.injEq] at h
            obtain ⟨rfl, rfl⟩ := h
            exact ⟨by omega, by omega, .inr ⟨rfl, d, hl, .inl k4⟩, fun i hi hin => by omega⟩
          · rw [if_neg k4] at h
            by_cases k2 : d.2.1 = 2
            · rw [if_pos k2] at h
              cases hu : up12 S p f n with
              | none =>
                rw [hu] at h
                simp only [Option.some.injEq, Prod.mk.injEq] at h
                obtain ⟨rfl, rfl⟩ := h
                exact ⟨by omega, by omega, .inr ⟨rfl, d, hl, .inr ⟨k2, fun x i hx => by rw [hu] at hx; cases hx⟩⟩, fun i hi hin => by omega⟩
              | some z =>
                obtain ⟨x, i⟩ := z
                rw [hu] at h
                simp only at h
                by_cases hx : x.2.1 = 2
                · rw [if_pos hx] at h
                  simp only [Option.some.injEq, Prod.mk.injEq] at h
                  obtain ⟨rfl, rfl⟩ := h
                  obtain ⟨h1, h2, h3, h4⟩ := up_from n hu
                  refine ⟨h1, by omega, .inr ⟨rfl, ?_⟩, fun i' hi hin d' hd => ?_⟩
                  · rcases h3 with ⟨h3, _⟩ | ⟨_, h3⟩
                    · omega
                    · exact h3
                  · rcases Nat.lt_or_ge i' n with h5 | h5
                    · exact h4 i' hi h5 d' hd
                    · obtain rfl : i' = n := by omega
                      rw [hl] at hd
                      cases hd
                      exact k2
                · rw [if_neg hx] at h
                  simp only [Option.some.injEq, Prod.mk.injEq] at h
                  obtain ⟨rfl, rfl⟩ := h
                  exact ⟨by omega, by omega, .inr ⟨rfl, d, hl, .inr ⟨k2, fun y k hy => by rw [hu] at hy; cases hy; exact hx⟩⟩, fun i hi hin => by omega⟩
            · rw [if_neg k2] at h
              cases h
/-- A directory in a directory: its floor. -/
theorem flo_child {S : List (List Ent)} (hS : ∀ l ∈ S, RightL l) {p : List UInt8} {f j : Nat} {e : Ent} (hp : isP p) (hp1 : p ≠ [47]) (hF : Flo S (par9 p) f) (h : up12 S p f S.length = some (e, j)) (hk : e.2.1 = 2) : Flo S p j := by
  obtain ⟨h1, h2, h3, h4⟩ := up_from _ h
  obtain ⟨_, d, hdf, h5⟩ := h3.resolve_left fun h9 => by have := h9.1; omega
  have hl := (hS _ (layN_mem h2)).2
  obtain ⟨hd1, hd2⟩ := (fnd_some hl.2.1).1 hdf
  have hupar : und p (par9 p) = true := by rw [und_par9 hp hp1, decide_eq_true rfl, Bool.true_or]
  refine ⟨.inl h2, fun _ x hx hu => ?_, fun i hi hin g hg h6 => ⟨fun h7 => ?_, ?_⟩⟩
  · have hx' := hx
    rw [stk_take h2] at hx
    rcases (mem_over hl.1 hl.2.1).1 hx with h6 | ⟨h6, h7⟩
    · exact h6
    · rcases h5 with h5 | ⟨h5, h8⟩
      · have h9 := (h7 d hd1).2 (by omega)
        rw [hd2, hu] at h9
        cases h9
      · by_cases hjf : j = f
        · subst hjf
          exact hF.2.1 h2 x hx' (und_trans12 hu hupar)
        · have h9 := up_fnd hS hp hp1 hF j (by omega) (by omega)
          have ht := tr_take12 hS j
          obtain ⟨g, hg1, hg2, hg3⟩ := tr_above ht hp1 _ x h6 rfl hu
          rw [(fnd_some ht.1.2.1).2 ⟨hg1, hg2⟩] at h9
          cases hu9 : up12 S p f j with
          | none => rw [hu9] at h9; cases h9
          | some z =>
            obtain ⟨y, i⟩ := z
            rw [hu9] at h9
            simp only [Option.map_some, Option.some.injEq] at h9
            subst h9
            refine absurd ?_ (h8 _ _ hu9)
            have := ht.2 y hg1
            unfold hd at hg3
            simp only [Bool.or_eq_true, beq_iff_eq] at hg3
            omega
  · have hli := (hS _ (layN_mem hin)).2
    exact h6 (h4 i hi hin g ((fnd_some hli.2.1).2 ⟨hg, h7⟩))
  · obtain ⟨h7, h8⟩ := hF.2.2 i (by omega) hin g hg h6
    rw [und_par9 hp hp1, h8, Bool.or_false, decide_eq_false_iff_not]
    exact h7
theorem isP_pos {p : List UInt8} (h : isP p) : 1 ≤ p.length := by
  have := h.1
  cases p with
  | nil => simp at this
  | cons c r => simp
theorem at12_fuel (S : List (List Ent)) : ∀ n m p, isP p → p.length ≤ n → p.length ≤ m → at12 S n p = at12 S m p
  | 0, _, p, hp, h, _ => by have := isP_pos hp; omega
  | _ + 1, 0, p, hp, _, h => by have := isP_pos hp; omega
  | n + 1, m + 1, p, hp, h1, h2 => by
    by_cases hr : p = [47]
    · rw [at12, at12, if_pos hr, if_pos hr]
    · obtain ⟨p1, p2⟩ := par9_isP hp hr
      rw [at12, at12, if_neg hr, if_neg hr, at12_fuel S n m (par9 p) p1 (by omega) (by omega)]
theorem atT_fuel (t : List Ent) : ∀ n m p, isP p → p.length ≤ n → p.length ≤ m → atT t n p = atT t m p
  | 0, _, p, hp, h, _ => by have := isP_pos hp; omega
  | _ + 1, 0, p, hp, _, h => by have := isP_pos hp; omega
  | n + 1, m + 1, p, hp, h1, h2 => by
    by_cases hr : p = [47]
    · rw [atT, atT, if_pos hr, if_pos hr]
    · obtain ⟨p1, p2⟩ := par9_isP hp hr
      rw [atT, atT, if_neg hr, if_neg hr, atT_fuel t n m (par9 p) p1 (by omega) (by omega)]
/-- What lies at a path of a stack, and of a tree: the error, the entry (and the floor). -/
def atS (S : List (List Ent)) (p : List UInt8) : Int × Ent × Nat := if ¬ isP p then (2, noE, 0) else at12 S p.length p
def atV (t : List Ent) (p : List UInt8) : Int × Ent := if ¬ isP p then (2, noE) else atT t p.length p
theorem atS_bad {S : List (List Ent)} {p : List UInt8} (h : ¬ isP p) : atS S p = (2, noE, 0) := if_pos h
theorem isP_root : isP [47] := by decide
theorem atS_root (S : List (List Ent)) : atS S [47] = (0, dP [47], 0) := by
  unfold atS
  rw [if_neg (not_not_intro isP_root)]
  rfl
theorem atV_root (t : List Ent) : atV t [47] = (0, dP [47]) := by
  unfold atV
  rw [if_neg (not_not_intro isP_root)]
  rfl
/-- Name by name. -/
theorem atS_step (S : List (List Ent)) {p : List UInt8} (hp : isP p) (hr : p ≠ [47]) : atS S p = if (atS S (par9 p)).1 ≠ 0 then ((atS S (par9 p)).1, noE, 0) else if (atS S (par9 p)).2.1.2.1 ≠ 2 then (6, noE, 0) else
    match up12 S p (atS S (par9 p)).2.2 S.length with
    | none => (3, noE, 0)
    | some (e, j) => (0, e, j) := by
  obtain ⟨p1, p2⟩ := par9_isP hp hr
  have hl := isP_pos hp
  unfold atS
  rw [if_neg (not_not_intro hp), if_neg (not_not_intro p1)]
  obtain ⟨m, hm⟩ : ∃ m, p.length = m + 1 := ⟨p.length - 1, by omega⟩
  rw [hm, at12, if_neg hr, at12_fuel S m (par9 p).length (par9 p) p1 (by omega) (by omega)]
theorem atV_step (t : List Ent) {p : List UInt8} (hp : isP p) (hr : p ≠ [47]) : atV t p = if (atV t (par9 p)).1 ≠ 0 then ((atV t (par9 p)).1, noE) else if (atV t (par9 p)).2.2.1 ≠ 2 then (6, noE) else
    match fnd t p with
    | none => (3, noE)
    | some e => (0, e) := by
  obtain ⟨p1, p2⟩ := par9_isP hp hr
  have hl := isP_pos hp
  unfold atV
  rw [if_neg (not_not_intro hp), if_neg (not_not_intro p1)]
  obtain ⟨m, hm⟩ : ∃ m, p.length = m + 1 := ⟨p.length - 1, by omega⟩
  rw [hm, atT, if_neg hr, atT_fuel t m (par9 p).length (par9 p) p1 (by omega) (by omega)]
/-- A fact of all paths, by their directories. -/
theorem path_ind {P : List UInt8 → Prop} (h0 : P [47]) (h1 : ∀ p, isP p → p ≠ [47] → P (par9 p) → P p) : ∀ p, isP p → P p := by
  have key : ∀ n p, p.length = n → isP p → P p := by
    intro n
    induction n using Nat.strongRecOn with
    | _ n ih =>
      intro p hn hp
      by_cases hr : p = [47]
      · exact hr ▸ h0
      · obtain ⟨p1, p2⟩ := par9_isP hp hr
        exact h1 p hp hr (ih _ (by omega) _ rfl p1)
  exact fun p hp => key _ p rfl hp
/-- What lies at a path of a stack is what the folded stack has there; where it lies. -/
theorem look_all {S : List (List Ent)} (hS : ∀ l ∈ S, RightL l) : ∀ p, isP p → (atS S p).1 = (atV (stk S) p).1 ∧ (atS S p).2.1 = (atV (stk S) p).2 ∧
    ((atS S p).1 ≠ 0 → (atS S p).2 = (noE, 0)) ∧ ((atS S p).1 = 0 → pl (atS S p).2.1 = p ∧
      ((atS S p).2.1.2.1 = 2 ∧ (atS S p).2.1 = dP p ∧ Flo S p (atS S p).2.2 ∨ (atS S p).2.1.2.1 = 1 ∧ p ≠ [47] ∧ (atS S p).2.2 < S.length ∧ fnd (layN S (atS S p).2.2) p = some (atS S p).2.1)) := by
  refine path_ind ?_ fun p hp hr ih => ?_
  · rw [atS_root, atV_root]
    exact ⟨rfl, rfl, fun h => absurd rfl h, fun _ => ⟨pl_dP _, .inl ⟨rfl, rfl, flo_root S hS⟩⟩⟩
  · obtain ⟨i1, i2, i3, i4⟩ := ih
    rw [atS_step S hp hr, atV_step _ hp hr, ← i1, ← i2]
    by_cases he : (atS S (par9 p)).1 = 0
    · rw [if_neg (not_not_intro he), if_neg (not_not_intro he)]
      by_cases hk : (atS S (par9 p)).2.1.2.1 = 2
      · rw [if_neg (not_not_intro hk), if_neg (not_not_intro hk)]
        obtain ⟨_, i5⟩ := i4 he
        obtain ⟨_, _, hF⟩ := i5.resolve_right fun h9 => by have := h9.1; omega
        have hfnd : (up12 S p (atS S (par9 p)).2.2 S.length).map (·.1) = fnd (stk S) p := by
          by_cases hlen : (atS S (par9 p)).2.2 < S.length
          · have := up_fnd hS hp hr hF S.length hlen (by omega)
            rwa [List.take_length] at this
          · have h0 : S.length = 0 := by
              rcases hF.1 with h | ⟨_, h⟩
              · exact absurd h hlen
              · omega
            rw [List.length_eq_zero_iff.1 h0]
            rfl
        rw [← hfnd]
        cases hu : up12 S p (atS S (par9 p)).2.2 S.length with
        | none => exact ⟨rfl, rfl, fun _ => rfl, fun h => by cases h⟩
        | some z =>
          obtain ⟨e, j⟩ := z
          obtain ⟨u1, u2, u3, u4⟩ := up_from _ hu
          refine ⟨rfl, rfl, fun h => absurd rfl h, fun _ => ?_⟩
          rcases u3 with ⟨k1, h9⟩ | ⟨h9, _⟩
          · exact ⟨((fnd_some (hS _ (layN_mem u2)).2.2.1).1 h9).2, .inr ⟨k1, hr, u2, h9⟩⟩
          · subst h9
            exact ⟨pl_dP p, .inl ⟨rfl, rfl, flo_child hS hp hr hF hu rfl⟩⟩
      · rw [if_pos hk, if_pos hk]
        exact ⟨rfl, rfl, fun _ => rfl, fun h => by cases h⟩
    · rw [if_pos he, if_pos he]
      exact ⟨rfl, rfl, fun _ => rfl, fun h => absurd h he⟩
/-- Of a tree: what is there lies there. -/
theorem atV_mem {t : List Ent} (ht : TR t) : ∀ p, isP p → ∀ e ∈ t, pl e = p → atV t p = (0, e) := by
  refine path_ind ?_ fun p hp hr ih e he hep => ?_
  · intro e he hep
    exact absurd hep (rE_isP (ht.1.1 e he)).2
  · have hd9 : (atV t (par9 p)).1 = 0 ∧ (atV t (par9 p)).2.2.1 = 2 := by
      rcases ht.1.2.2 e he with h | ⟨d, hd1, hd2, hd3⟩
      · rw [← hep, h, atV_root]
        exact ⟨rfl, rfl⟩
      · rw [ih d hd1 (hd2.trans (by rw [hep]))]
        refine ⟨rfl, ?_⟩
        have := ht.2 d hd1
        unfold hd at hd3
        simp only [Bool.or_eq_true, beq_iff_eq] at hd3
        show d.2.1 = 2
        omega
    rw [atV_step t hp hr, if_neg (not_not_intro hd9.1), if_neg (not_not_intro hd9.2), (fnd_some ht.1.2.1).2 ⟨he, hep⟩]
/-- What lies at a path of a tree: the root, or an entry. -/
theorem atV_some {t : List Ent} {p : List UInt8} (hp : isP p) (hr : p ≠ [47]) (h : (atV t p).1 = 0) : fnd t p = some (atV t p).2 := by
  rw [atV_step t hp hr] at h ⊢
  by_cases h1 : (atV t (par9 p)).1 = 0
  · rw [if_neg (not_not_intro h1)] at h ⊢
    by_cases h2 : (atV t (par9 p)).2.2.1 = 2
    · rw [if_neg (not_not_intro h2)] at h ⊢
      cases h3 : fnd t p with
      | none => rw [h3] at h; cases h
      | some e => rfl
    · rw [if_pos h2] at h
      cases h
  · rw [if_pos h1] at h
    exact absurd h h1
/-- Under what is missing, or a file, nothing lies: the error. -/
theorem atV_under {t : List Ent} {q : List UInt8} {er : Int} (he : er ≠ 0) (hq : (atV t q).1 = er ∨ er = 6 ∧ (atV t q).1 = 0 ∧ (atV t q).2.2.1 ≠ 2) : ∀ p, isP p → und p q = true → (atV t p).1 = er := by
  refine path_ind ?_ fun p hp hr ih hu => ?_
  · intro hu
    obtain ⟨_, h1, h2, h3⟩ := und_iff.1 hu
    have h4 := isP_pos h1
    have h5 : q.length < 1 := (und_longer hu).2
    omega
  · rw [und_par9 hp hr, Bool.or_eq_true, decide_eq_true_iff] at hu
    have key : (atV t (par9 p)).1 = er ∨ er = 6 ∧ (atV t (par9 p)).1 = 0 ∧ (atV t (par9 p)).2.2.1 ≠ 2 := by
      rcases hu with hu | hu
      · rw [← hu]
        exact hq
      · exact .inl (ih hu)
    rw [atV_step t hp hr]
    rcases key with h | ⟨h1, h2, h3⟩
    · rw [if_pos (by rw [h]; exact he)]
      exact h
    · rw [if_neg (not_not_intro h2), if_pos h3]
      exact h1.symm
end Go.Proofs.YtlnjbadbpddlmaaDoor

namespace Go.Proofs.YtlnjbadbpddlmaaDoor
open Go.RowKit

theorem atV_err (t : List Ent) {p : List UInt8} (h : (atV t p).1 ≠ 0) : (atV t p).2 = noE := by
  by_cases hp : isP p
  · by_cases hr : p = [47]
    · subst hr
      rw [atV_root] at h
      exact absurd rfl h
    · rw [atV_step t hp hr] at h ⊢
      by_cases h1 : (atV t (par9 p)).1 = 0
      · rw [if_neg (not_not_intro h1)] at h ⊢
        by_cases h2 : (atV t (par9 p)).2.2.1 = 2
        · rw [if_neg (not_not_intro h2)] at h ⊢
          cases h3 : fnd t p with
          | none => rfl
          | some e => rw [h3] at h; exact absurd rfl h
        · rw [if_pos h2]
      · rw [if_pos h1]
  · unfold atV
    rw [if_pos hp]
theorem atS_err (S : List (List Ent)) {p : List UInt8} (h : (atS S p).1 ≠ 0) : (atS S p).2 = (noE, 0) := by
  by_cases hp : isP p
  · by_cases hr : p = [47]
    · subst hr
      rw [atS_root] at h
      exact absurd rfl h
    · rw [atS_step S hp hr] at h ⊢
      by_cases h1 : (atS S (par9 p)).1 = 0
      · rw [if_neg (not_not_intro h1)] at h ⊢
        by_cases h2 : (atS S (par9 p)).2.1.2.1 = 2
        · rw [if_neg (not_not_intro h2)] at h ⊢
          cases h3 : up12 S p (atS S (par9 p)).2.2 S.length with
          | none => rfl
          | some z => rw [h3] at h; exact absurd rfl h
        · rw [if_pos h2]
      · rw [if_pos h1]
  · rw [atS_bad hp]
/-- Of a path whose directory is there, the tree's entry tells all. -/
theorem kd_step {t : List Ent} {q : List UInt8} (hq : isP q) (h : q = [47] ∨ (atV t (par9 q)).1 = 0 ∧ (atV t (par9 q)).2.2.1 = 2) : (kdV t q).1 = (atV t q).1 ∧ ((atV t q).1 = 0 → (kdV t q).2 = (atV t q).2.2.1) := by
  unfold kdV
  rw [if_neg (not_not_intro hq)]
  by_cases hr : q = [47]
  · rw [if_pos hr, hr, atV_root]
    exact ⟨rfl, fun _ => rfl⟩
  · obtain ⟨h1, h2⟩ := h.resolve_left hr
    rw [if_neg hr, atV_step t hq hr, if_neg (not_not_intro h1), if_neg (not_not_intro h2)]
    cases fnd t q with
    | none => exact ⟨rfl, fun h => by cases h⟩
    | some e => exact ⟨rfl, fun _ => rfl⟩
/-- A path's beginning of so many names. -/
def pre12 (p : List UInt8) (i : Nat) : List UInt8 := pth ((pcs p).take i)
theorem pre_isP {p : List UInt8} (hp : isP p) (i : Nat) : isP (pre12 p i) ∧ pcs (pre12 p i) = (pcs p).take i := by
  have hg : good ((pcs p).take i) := ⟨by have := hp.2.1; rw [List.length_take]; omega, fun x hx => hp.2.2 x (List.mem_of_mem_take hx)⟩
  exact ⟨isP_pth hg, pcs_pth hg.2⟩
theorem pre_full {p : List UInt8} (hp : isP p) : pre12 p (pcs p).length = p := by
  unfold pre12
  rw [List.take_length]
  exact hp.eq
theorem pre_und {p : List UInt8} (hp : isP p) {i : Nat} (hi : i < (pcs p).length) : und p (pre12 p i) = true := by
  obtain ⟨h1, h2⟩ := pre_isP hp i
  rw [und_iff, h2]
  refine ⟨hp, h1, List.take_prefix i _, fun e => ?_⟩
  have := congrArg List.length e
  rw [List.length_take] at this
  omega
theorem pre_par {p : List UInt8} (hp : isP p) {i : Nat} (hi : i < (pcs p).length) : par9 (pre12 p (i + 1)) = pre12 p i ∧ pre12 p (i + 1) ≠ [47] := by
  obtain ⟨h1, h2⟩ := pre_isP hp (i + 1)
  constructor
  · unfold par9
    rw [h2]
    unfold pre12
    congr 1
    rw [List.dropLast_eq_take, List.take_take, List.length_take]
    congr 1
    omega
  · intro e
    have := (pcs_nil h1).2 e
    rw [h2] at this
    have := congrArg List.length this
    rw [List.length_take, List.length_nil] at this
    omega
/-- All beginnings of so many names, and fewer, are directories. -/
def dirs12 (t : List Ent) (p : List UInt8) (i : Nat) : Prop := i = 0 ∨ (atV t (pre12 p (i - 1))).1 = 0 ∧ (atV t (pre12 p (i - 1))).2.2.1 = 2
theorem ref_kd {t : List Ent} {p : List UInt8} (hp : isP p) {i : Nat} (hi : i ≤ (pcs p).length) (h : dirs12 t p i) : (kdV t (pre12 p i)).1 = (atV t (pre12 p i)).1 ∧ ((atV t (pre12 p i)).1 = 0 → (kdV t (pre12 p i)).2 = (atV t (pre12 p i)).2.2.1) := by
  refine kd_step (pre_isP hp i).1 ?_
  cases i with
  | zero => exact .inl (by unfold pre12; rw [List.take_zero]; rfl)
  | succ i =>
    refine .inr ?_
    rw [(pre_par hp (show i < (pcs p).length by omega)).1]
    exact h.resolve_left (by omega)
/-- The document's answer, beginning by beginning. -/
theorem ref_at {t : List Ent} {p : List UInt8} (hp : isP p) {i : Nat} (hi : i < (pcs p).length) (h : dirs12 t p i) :
    ((kdV t (pre12 p i)).1 ≠ 0 → (atV t p).1 = (kdV t (pre12 p i)).1) ∧ ((kdV t (pre12 p i)).1 = 0 → (kdV t (pre12 p i)).2 ≠ 2 → (atV t p).1 = 6) ∧ ((kdV t (pre12 p i)).1 = 0 → (kdV t (pre12 p i)).2 = 2 → dirs12 t p (i + 1)) := by
  obtain ⟨h1, h2⟩ := ref_kd hp (by omega) h
  have hu := pre_und hp hi
  refine ⟨fun h3 => ?_, fun h3 h4 => ?_, fun h3 h4 => .inr ?_⟩
  · exact atV_under h3 (.inl h1.symm) p hp hu
  · rw [h1] at h3
    rw [h2 h3] at h4
    exact atV_under (by omega) (.inr ⟨rfl, h3, h4⟩) p hp hu
  · rw [h1] at h3
    rw [h2 h3] at h4
    exact ⟨h3, h4⟩
theorem ref_end {t : List Ent} {p : List UInt8} (hp : isP p) (h : dirs12 t p (pcs p).length) : (kdV t p).1 = (atV t p).1 ∧ ((atV t p).1 = 0 → (kdV t p).2 = (atV t p).2.2.1) := by
  have := ref_kd hp (Nat.le_refl _) h
  rwa [pre_full hp] at this
theorem atV_data {t : List Ent} (ht : TR t) {p : List UInt8} (hp : isP p) (h : (atV t p).1 = 0) : (atV t p).2.2.2 = datV t p := by
  by_cases hr : p = [47]
  · subst hr
    have : fnd t [47] = none := fnd_none.2 fun e he => (rE_isP (ht.1.1 e he)).2
    unfold datV
    rw [this, atV_root]
    rfl
  · unfold datV
    rw [atV_some hp hr h]
/-- Name by name, turned back: the directory, and what stands in the layers. -/
theorem atS_up {S : List (List Ent)} {p : List UInt8} (hp : isP p) (hr : p ≠ [47]) (h : (atS S p).1 = 0) : (atS S (par9 p)).1 = 0 ∧ (atS S (par9 p)).2.1.2.1 = 2 ∧ up12 S p (atS S (par9 p)).2.2 S.length = some ((atS S p).2.1, (atS S p).2.2) := by
  have h0 := h
  rw [atS_step S hp hr] at h0
  by_cases h1 : (atS S (par9 p)).1 = 0
  · rw [if_neg (not_not_intro h1)] at h0
    by_cases h2 : (atS S (par9 p)).2.1.2.1 = 2
    · rw [if_neg (not_not_intro h2)] at h0
      refine ⟨h1, h2, ?_⟩
      rw [atS_step S hp hr, if_neg (not_not_intro h1), if_neg (not_not_intro h2)]
      cases h3 : up12 S p (atS S (par9 p)).2.2 S.length with
      | none => rw [h3] at h0; cases h0
      | some z => rfl
    · rw [if_pos h2] at h0
      cases h0
  · rw [if_pos h1] at h0
    exact absurd h0 h1
/-- A directory's floor is no higher than what lies in it. -/
theorem floor_par {S : List (List Ent)} {p : List UInt8} (hp : isP p) (hr : p ≠ [47]) (h : (atS S p).1 = 0) : (atS S (par9 p)).2.2 ≤ (atS S p).2.2 ∧ (atS S p).2.2 < S.length := by
  obtain ⟨_, _, h3⟩ := atS_up hp hr h
  obtain ⟨u1, u2, _⟩ := up_from _ h3
  exact ⟨u1, u2⟩
/-- Where a directory lies from a layer on, it lies there all the while. -/
theorem up_stays {S : List (List Ent)} {p : List UInt8} {f j : Nat} {e : Ent} (hk : e.2.1 = 2) : ∀ n, up12 S p f n = some (e, j) → ∀ i, j < i → i ≤ n → up12 S p f i = some (dP p, j)
  | 0, h, _, _, _ => by cases h
  | n + 1, h, i, h1, h2 => by
    have he : e = dP p := by
      rcases (up_from _ h).2.2.1 with h9 | h9
      · have := h9.1; omega
      · exact h9.1
    rcases Nat.lt_or_ge n i with h3 | h3
    · obtain rfl : i = n + 1 := by omega
      rw [h, he]
    · have h5 : j < n := by omega
      rw [up12] at h
      by_cases hf : n < f
      · rw [if_pos hf] at h; cases h
      · rw [if_neg hf] at h
        cases hl : fnd (layN S n) p with
        | none =>
          rw [hl] at h
          exact up_stays hk n h i h1 h3
        | some d =>
          rw [hl] at h
          simp only at h
          by_cases k1 : d.2.1 = 1
          · rw [if_pos k1] at h
            simp only [Option.some.injEq, Prod.mk.injEq] at h
            omega
          · rw [if_neg k1] at h
            by_cases k4 : d.2.1 = 4
            · rw [if_pos k4] at h
              simp only [Option.some.injEq, Prod.mk.injEq] at h
              omega
            · rw [if_neg k4] at h
              by_cases k2 : d.2.1 = 2
              · rw [if_pos k2] at h
                cases hu : up12 S p f n with
                | none =>
                  rw [hu] at h
                  simp only [Option.some.injEq, Prod.mk.injEq] at h
                  omega
                | some z =>
                  obtain ⟨x, y⟩ := z
                  rw [hu] at h
                  simp only at h
                  by_cases hx : x.2.1 = 2
                  · rw [if_pos hx] at h
                    simp only [Option.some.injEq, Prod.mk.injEq] at h
                    obtain ⟨_, rfl⟩ := h
                    exact up_stays hx n hu i h1 h3
                  · rw [if_neg hx] at h
                    simp only [Option.some.injEq, Prod.mk.injEq] at h
                    omega
              · rw [if_neg k2] at h
                cases h
/-- Does an entry of the layer n make a directory of the path? -/
def hitE (S : List (List Ent)) (p : List UInt8) (n : Nat) (e : Ent) : Bool := decide (pl e = p) && (e.2.1 == 4 || e.2.1 == 2 && decide (kdV (stk (S.take n)) p ≠ (0, 2)))
def hit12 (S : List (List Ent)) (p : List UInt8) (n : Nat) : Bool := (layN S n).any (hitE S p n)
/-- The greatest such layer below n, no less than f. -/
def flr12 (S : List (List Ent)) (p : List UInt8) (f : Nat) : Nat → Nat
  | 0 => f
  | n + 1 => if hit12 S p n = true then max (flr12 S p f n) n else flr12 S p f n
theorem flr_ge (S : List (List Ent)) (p : List UInt8) (f : Nat) : ∀ n, f ≤ flr12 S p f n ∧ ∀ i < n, hit12 S p i = true → i ≤ flr12 S p f n
  | 0 => ⟨Nat.le_refl _, fun i hi => by omega⟩
  | n + 1 => by
    obtain ⟨h1, h2⟩ := flr_ge S p f n
    rw [flr12]
    by_cases h : hit12 S p n = true
    · rw [if_pos h]
      refine ⟨by omega, fun i hi h3 => ?_⟩
      rcases Nat.lt_or_ge i n with h4 | h4
      · have := h2 i h4 h3
        omega
      · omega
    · rw [if_neg h]
      refine ⟨h1, fun i hi h3 => ?_⟩
      rcases Nat.lt_or_ge i n with h4 | h4
      · exact h2 i h4 h3
      · obtain rfl : i = n := by omega
        exact absurd h3 h
theorem flr_le {S : List (List Ent)} {p : List UInt8} {f j : Nat} (hf : f ≤ j) : ∀ n, (∀ i < n, hit12 S p i = true → i ≤ j) → flr12 S p f n ≤ j
  | 0, _ => hf
  | n + 1, h => by
    have ih := flr_le hf n fun i hi => h i (by omega)
    rw [flr12]
    by_cases h1 : hit12 S p n = true
    · rw [if_pos h1]
      have := h n (by omega) h1
      omega
    · rw [if_neg h1]
      exact ih
/-- A directory's floor is the document's. -/
theorem floor_is {S : List (List Ent)} (hS : ∀ l ∈ S, RightL l) {p : List UInt8} (hp : isP p) (hr : p ≠ [47]) (h : (atS S p).1 = 0) (hk : (atS S p).2.1.2.1 = 2) : flr12 S p (atS S (par9 p)).2.2 S.length = (atS S p).2.2 := by
  obtain ⟨h1, h2, h3⟩ := atS_up hp hr h
  obtain ⟨_, _, _, h4⟩ := look_all hS (par9 p) (par9_isP hp hr).1
  obtain ⟨_, h5⟩ := h4 h1
  obtain ⟨_, _, hF⟩ := h5.resolve_right fun h9 => by have := h9.1; omega
  obtain ⟨u1, u2, u3, u4⟩ := up_from _ h3
  have hup : ∀ i, (atS S (par9 p)).2.2 < i → i ≤ S.length → (up12 S p (atS S (par9 p)).2.2 i).map (·.1) = fnd (stk (S.take i)) p := fun i h6 h7 => up_fnd hS hp hr hF i h6 h7
  have hkd : ∀ t : List Ent, kdV t p = (0, 2) ↔ ∃ e, fnd t p = some e ∧ e.2.1 = 2 := fun t => by
    unfold kdV
    rw [if_neg (not_not_intro hp), if_neg hr]
    cases fnd t p with
    | none => exact ⟨fun h9 => (by cases h9), fun ⟨e, he, _⟩ => (by cases he)⟩
    | some e => exact ⟨fun h9 => ⟨e, rfl, congrArg Prod.snd h9⟩, fun ⟨e', he, h9⟩ => by cases he; show ((0 : Int), e.2.1) = _; rw [h9]⟩
  have hhit : ∀ n, hit12 S p n = true ↔ ∃ e ∈ layN S n, pl e = p ∧ (e.2.1 = 4 ∨ e.2.1 = 2 ∧ kdV (stk (S.take n)) p ≠ (0, 2)) := fun n => by
    unfold hit12 hitE
    rw [List.any_eq_true]
    simp only [Bool.and_eq_true, decide_eq_true_iff, Bool.or_eq_true, beq_iff_eq]
  refine Nat.le_antisymm (flr_le u1 _ fun i hi hh => ?_) ?_
  · obtain ⟨e, he, hep, h6⟩ := (hhit i).1 hh
    rcases Nat.lt_or_ge (atS S p).2.2 i with h7 | h7
    · exfalso
      have hl := (hS _ (layN_mem hi)).2
      have h8 := u4 i h7 hi e ((fnd_some hl.2.1).2 ⟨he, hep⟩)
      rcases h6 with h6 | ⟨_, h6⟩
      · omega
      · refine h6 ((hkd _).2 ⟨dP p, ?_, rfl⟩)
        rw [← hup i (by omega) (by omega), up_stays hk _ h3 i h7 (by omega)]
        rfl
    · exact h7
  · obtain ⟨g1, g2⟩ := flr_ge S p (atS S (par9 p)).2.2 S.length
    rcases u3 with ⟨h6, _⟩ | ⟨_, d, hd1, hd2⟩
    · omega
    · by_cases hjf : (atS S p).2.2 = (atS S (par9 p)).2.2
      · rw [hjf]
        exact g1
      · have hl := (hS _ (layN_mem u2)).2
        obtain ⟨m1, m2⟩ := (fnd_some hl.2.1).1 hd1
        refine g2 _ u2 ((hhit _).2 ⟨d, m1, m2, hd2.imp_right fun ⟨k2, h7⟩ => ⟨k2, fun h8 => ?_⟩⟩)
        obtain ⟨e, he, hek⟩ := (hkd _).1 h8
        rw [← hup _ (by omega) (by omega)] at he
        cases h9 : up12 S p (atS S (par9 p)).2.2 (atS S p).2.2 with
        | none => rw [h9] at he; cases he
        | some z =>
          obtain ⟨x, i⟩ := z
          rw [h9] at he
          simp only [Option.map_some, Option.some.injEq] at he
          exact h7 x i h9 (he ▸ hek)
/-- A file lies in the layer that is its floor. -/
theorem floor_file {S : List (List Ent)} (hS : ∀ l ∈ S, RightL l) {p : List UInt8} (hp : isP p) (h : (atS S p).1 = 0) (hk : (atS S p).2.1.2.1 = 1) : (atS S p).2.2 < S.length ∧ fnd (layN S (atS S p).2.2) p = some (atS S p).2.1 := by
  obtain ⟨_, _, _, h4⟩ := look_all hS p hp
  obtain ⟨_, h5⟩ := h4 h
  rcases h5 with ⟨h6, _⟩ | ⟨_, _, h6⟩
  · omega
  · exact h6
theorem layN_snoc (S : List (List Ent)) (l : List Ent) : (∀ n < S.length, layN (S ++ [l]) n = layN S n) ∧ layN (S ++ [l]) S.length = l := by
  constructor
  · intro n hn
    unfold layN
    rw [List.getD_eq_getElem?_getD, List.getD_eq_getElem?_getD, List.getElem?_append_left hn]
  · unfold layN
    rw [List.getD_eq_getElem?_getD, List.getElem?_append_right (Nat.le_refl _), Nat.sub_self]
    rfl
theorem up_ext {S T : List (List Ent)} (p : List UInt8) (f : Nat) : ∀ n, (∀ i < n, layN S i = layN T i) → up12 S p f n = up12 T p f n
  | 0, _ => rfl
  | n + 1, h => by rw [up12, up12, h n (by omega), up_ext p f n fun i hi => h i (by omega)]
theorem up_none (S : List (List Ent)) (p : List UInt8) {f n : Nat} (h : n ≤ f) : up12 S p f n = none := by
  cases n with
  | zero => rfl
  | succ n => rw [up12, if_pos (by omega)]
theorem up_snoc_nil (S : List (List Ent)) (p : List UInt8) (f : Nat) : up12 (S ++ [[]]) p f (S ++ [[]]).length = up12 S p f S.length := by
  obtain ⟨h1, h2⟩ := layN_snoc S []
  rw [List.length_append, List.length_singleton, up12, h2]
  by_cases hf : S.length < f
  · rw [if_pos hf, up_none S p (by omega)]
  · rw [if_neg hf]
    exact up_ext p f _ h1
/-- An empty layer on top. -/
theorem at_snoc_nil (S : List (List Ent)) (p : List UInt8) : atS (S ++ [[]]) p = atS S p := by
  by_cases hp : isP p
  · revert p
    refine path_ind ?_ fun p hp hr ih => ?_
    · rw [atS_root, atS_root]
    · rw [atS_step _ hp hr, atS_step S hp hr, ih, up_snoc_nil]
  · rw [atS_bad hp, atS_bad hp]
theorem up_cons_nil (S : List (List Ent)) (p : List UInt8) {f g : Nat} (hg : g = f + 1 ∨ g = 0 ∧ f = 0) : ∀ n, up12 ([] :: S) p g (n + 1) = (up12 S p f n).map fun z => (z.1, z.2 + 1)
  | 0 => by
    show (if 0 < g then none else none) = none
    split <;> rfl
  | n + 1 => by
    have ih := up_cons_nil S p hg n
    have hl : layN ([] :: S) (n + 1) = layN S n := rfl
    rw [up12, ih, hl, up12]
    by_cases h : n < f
    · rw [if_pos h, if_pos (by omega)]
      rfl
    · rw [if_neg h, if_neg (by omega)]
      cases fnd (layN S n) p with
      | none => rfl
      | some e =>
        simp only
        by_cases k1 : e.2.1 = 1
        · rw [if_pos k1, if_pos k1]; rfl
        · rw [if_neg k1, if_neg k1]
          by_cases k4 : e.2.1 = 4
          · rw [if_pos k4, if_pos k4]; rfl
          · rw [if_neg k4, if_neg k4]
            by_cases k2 : e.2.1 = 2
            · rw [if_pos k2, if_pos k2]
              cases up12 S p f n with
              | none => rfl
              | some z =>
                obtain ⟨x, j⟩ := z
                simp only [Option.map_some]
                by_cases hx : x.2.1 = 2
                · rw [if_pos hx, if_pos hx]; rfl
                · rw [if_neg hx, if_neg hx]; rfl
            · rw [if_neg k2, if_neg k2]; rfl
/-- An empty layer below. -/
theorem at_cons_nil (S : List (List Ent)) : ∀ p, isP p → (atS ([] :: S) p).1 = (atS S p).1 ∧ (atS ([] :: S) p).2.1 = (atS S p).2.1 ∧ ((atS S p).1 = 0 → (atS ([] :: S) p).2.2 = if p = [47] then 0 else (atS S p).2.2 + 1) := by
  refine path_ind ?_ fun p hp hr ih => ?_
  · rw [atS_root, atS_root]
    exact ⟨rfl, rfl, fun _ => rfl⟩
  · obtain ⟨i1, i2, i3⟩ := ih
    rw [atS_step _ hp hr, atS_step S hp hr, i1, i2]
    by_cases h1 : (atS S (par9 p)).1 = 0
    · rw [if_neg (not_not_intro h1), if_neg (not_not_intro h1)]
      by_cases h2 : (atS S (par9 p)).2.1.2.1 = 2
      · rw [if_neg (not_not_intro h2), if_neg (not_not_intro h2)]
        have hg : (atS ([] :: S) (par9 p)).2.2 = (atS S (par9 p)).2.2 + 1 ∨ (atS ([] :: S) (par9 p)).2.2 = 0 ∧ (atS S (par9 p)).2.2 = 0 := by
          rw [i3 h1]
          by_cases h3 : par9 p = [47]
          · rw [if_pos h3, h3, atS_root]
            exact .inr ⟨rfl, rfl⟩
          · rw [if_neg h3]
            exact .inl rfl
        rw [List.length_cons, up_cons_nil S p hg]
        cases up12 S p (atS S (par9 p)).2.2 S.length with
        | none => exact ⟨rfl, rfl, fun h => by cases h⟩
        | some z => exact ⟨rfl, rfl, fun _ => (if_neg hr).symm⟩
      · rw [if_pos h2, if_pos h2]
        exact ⟨rfl, rfl, fun h => by cases h⟩
    · rw [if_pos h1, if_pos h1]
      exact ⟨rfl, rfl, fun h => absurd h h1⟩
/-- Each entry of the folded stack lies there. -/
theorem at_mem {S : List (List Ent)} (hS : ∀ l ∈ S, RightL l) {e : Ent} (he : e ∈ stk S) : (atS S (pl e)).1 = 0 ∧ (atS S (pl e)).2.1 = e := by
  have ht := tr_stk hS
  obtain ⟨p1, _⟩ := rE_isP (ht.1.1 e he)
  obtain ⟨h1, h2, _⟩ := look_all hS _ p1
  rw [atV_mem ht _ p1 e he rfl] at h1 h2
  exact ⟨h1, h2⟩
/-- Under a file nothing lies. -/
theorem at_under_file {S : List (List Ent)} (hS : ∀ l ∈ S, RightL l) {p : List UInt8} (hp : isP p) (h : (atS S p).1 = 0) (hk : (atS S p).2.1.2.1 = 1) (hd : (pcs p).length < 6) : isP (p ++ [47, 120]) ∧ (atS S (p ++ [47, 120])).1 = 6 := by
  obtain ⟨h1, h2, _, h4⟩ := look_all hS p hp
  obtain ⟨_, h5⟩ := h4 h
  have hr : p ≠ [47] := by
    rcases h5 with ⟨h6, _⟩ | ⟨_, h6, _⟩
    · omega
    · exact h6
  have hne : pcs p ≠ [] := fun e => hr ((pcs_nil hp).1 e)
  have hg : good (pcs p ++ [[120]]) := ⟨by rw [List.length_append, List.length_singleton]; omega, fun x hx => by
    rcases List.mem_append.1 hx with hx | hx
    · exact hp.2.2 x hx
    · obtain rfl : x = [120] := by simpa using hx
      decide⟩
  have hq : pth (pcs p ++ [[120]]) = p ++ [47, 120] := by
    have h9 := hp.eq
    unfold pth at h9 ⊢
    rw [if_neg hne] at h9
    rw [if_neg (by simp), jn_append, h9]
    rfl
  have hqp : isP (p ++ [47, 120]) := hq ▸ isP_pth hg
  have hu : und (p ++ [47, 120]) p = true := by
    rw [und_iff]
    refine ⟨hqp, hp, ?_, ?_⟩
    · rw [← hq, pcs_pth hg.2]
      exact List.prefix_append _ _
    · rw [← hq, pcs_pth hg.2]
      simp
  refine ⟨hqp, ?_⟩
  rw [(look_all hS _ hqp).1]
  refine atV_under (by omega) (.inr ⟨rfl, h1 ▸ h, ?_⟩) _ hqp hu
  rw [← h2]
  omega
/-- A layer on top with a whiteout alone, or a file, in the root. -/
theorem at_white (S : List (List Ent)) {e : Ent} (hr : RL [e]) (hk : e.2.1 = 3 ∨ e.2.1 = 1) : atS (S ++ [[e]]) (pl e) = if e.2.1 = 3 then (3, noE, 0) else (0, e, S.length) := by
  obtain ⟨p1, p2⟩ := rE_isP (hr.1 e (by simp))
  have hpar : par9 (pl e) = [47] := by
    rcases hr.2.2 e (by simp) with h | ⟨d, hd1, _, hd3⟩
    · exact h
    · obtain rfl : d = e := by simpa using hd1
      unfold hd at hd3
      simp only [Bool.or_eq_true, beq_iff_eq] at hd3
      omega
  have hf : fnd [e] (pl e) = some e := (fnd_some hr.2.1).2 ⟨by simp, rfl⟩
  rw [atS_step _ p1 p2, hpar, atS_root, if_neg (by decide), if_neg (by decide), List.length_append, List.length_singleton, up12, if_neg (Nat.not_lt_zero _), (layN_snoc S [e]).2, hf]
  rcases hk with hk | hk
  · simp only [if_neg (show ¬ e.2.1 = 1 by omega), if_neg (show ¬ e.2.1 = 4 by omega), if_neg (show ¬ e.2.1 = 2 by omega), if_pos hk]
  · simp only [if_pos hk, if_neg (show ¬ e.2.1 = 3 by omega)]
end Go.Proofs.YtlnjbadbpddlmaaDoor

namespace Go.Proofs.YtlnjbadbpddlmaaDoor
open Go.RowKit

/-- The opaque directory at a path. -/
def oE (p : ByteArray) : Ent := (p, 4, ⟨#[]⟩)
theorem pl_oE (p : ByteArray) : pl (oE p) = p.data.toList := rfl
/-- One entry laid over a layer. -/
def one15 (l : List Ent) (e : Ent) : List Ent :=
  if e.2.1 = 2 then match fnd l (pl e) with
    | none => wth l e
    | some d => if d.2.1 = 1 ∨ d.2.1 = 3 then wth l (oE e.1) else l
  else wth (rst l (pl e)) e
/-- Two layers made one. -/
def mrg (low high : List Ent) : List Ent := high.foldl one15 low
/-- A layer at the bottom. -/
def bot15 (l : List Ent) : List Ent := (l.filter fun e => decide (e.2.1 ≠ 3)).map fun e => if e.2.1 = 4 then (e.1, 2, e.2.2) else e
theorem mrg_snoc (l h : List Ent) (e : Ent) : mrg l (h ++ [e]) = one15 (mrg l h) e := by unfold mrg; rw [List.foldl_append]; rfl
theorem rE_oE {e : Ent} (h : rE e = true) : rE (oE e.1) = true := rightE_of (rightE_parts h).1 (.inr ⟨⟨show (2 : Int) ≤ 4 by decide, show (4 : Int) ≤ 4 by decide⟩, rfl⟩)
theorem one_rE {l : List Ent} (hr : ∀ d ∈ l, rE d = true) {e : Ent} (he : rE e = true) : ∀ d ∈ one15 l e, rE d = true := by
  intro d hd9
  unfold one15 at hd9
  split at hd9
  · split at hd9
    · rcases mem_wth.1 hd9 with rfl | ⟨h, _⟩
      · exact he
      · exact hr d h
    · split at hd9
      · rcases mem_wth.1 hd9 with rfl | ⟨h, _⟩
        · exact rE_oE he
        · exact hr d h
      · exact hr d hd9
  · rcases mem_wth.1 hd9 with rfl | ⟨h, _⟩
    · exact he
    · exact hr d (mem_rst.1 h).1
theorem one_asc {l : List Ent} (hA : Asc l) (e : Ent) : Asc (one15 l e) := by
  unfold one15
  split
  · split
    · exact asc_wth hA _
    · split
      · exact asc_wth hA _
      · exact hA
  · exact asc_wth (asc_rst hA _) _
/-- One entry laid over a layer, laid over a tree. -/
theorem over_one {t l : List Ent} (ht : Asc t) (hr : ∀ d ∈ l, rE d = true) (hA : Asc l) {e : Ent} (he : rE e = true) : over t (one15 l e) = over1 (over t l) e := by
  have hk := kind_of he
  refine asc_ext (asc_over ht) (asc_over1 (asc_over ht) e) fun x => ?_
  rw [mem_over (one_rE hr he) (one_asc hA e), mem_over1 hk, mem_over hr hA]
  by_cases k2 : e.2.1 = 2
  · have hshe : sh e = dE e.1 := by unfold sh; rw [if_neg (by omega)]
    have hm : one15 l e = match fnd l (pl e) with
      | none => wth l e
      | some d => if d.2.1 = 1 ∨ d.2.1 = 3 then wth l (oE e.1) else l := by unfold one15; rw [if_pos k2]
    cases hf : fnd l (pl e) with
    | none =>
      rw [hf] at hm
      simp only at hm
      rw [hm]
      have hn := fnd_none.1 hf
      constructor
      · rintro (⟨d, hd9, h1, h2⟩ | ⟨h1, h2⟩)
        · rcases mem_wth.1 hd9 with rfl | ⟨h3, h4⟩
          · exact .inl ⟨h1, h2⟩
          · exact .inr ⟨.inl ⟨d, h3, h1, h2⟩, by rw [h2, pl_sh]; exact h4, fun h => absurd k2 h⟩
        · exact .inr ⟨.inr ⟨h1, fun d hd9 => h2 d (mem_wth.2 (.inr ⟨hd9, hn d hd9⟩))⟩, (h2 e (mem_wth.2 (.inl rfl))).1, fun h => absurd k2 h⟩
      · rintro (⟨h1, h2⟩ | ⟨⟨d, hd9, h1, h2⟩ | ⟨h1, h2⟩, h3, _⟩)
        · exact .inl ⟨e, mem_wth.2 (.inl rfl), h1, h2⟩
        · exact .inl ⟨d, mem_wth.2 (.inr ⟨hd9, hn d hd9⟩), h1, h2⟩
        · refine .inr ⟨h1, fun d hd9 => ?_⟩
          rcases mem_wth.1 hd9 with rfl | ⟨h5, _⟩
          · exact ⟨h3, fun h => absurd k2 h⟩
          · exact h2 d h5
    | some g =>
      obtain ⟨g1, g2⟩ := (fnd_some hA).1 hf
      rw [hf] at hm
      simp only at hm
      by_cases hg : g.2.1 = 1 ∨ g.2.1 = 3
      · rw [if_pos hg] at hm
        rw [hm]
        have hpo : pl (oE e.1) = pl e := rfl
        have hso : sh (oE e.1) = sh e := by rw [hshe]; rfl
        constructor
        · rintro (⟨d, hd9, h1, h2⟩ | ⟨h1, h2⟩)
          · rcases mem_wth.1 hd9 with rfl | ⟨h3, h4⟩
            · exact .inl ⟨by omega, h2.trans hso⟩
            · exact .inr ⟨.inl ⟨d, h3, h1, h2⟩, by rw [h2, pl_sh]; exact h4, fun h => absurd k2 h⟩
          · have ho := h2 (oE e.1) (mem_wth.2 (.inl rfl))
            refine .inr ⟨.inr ⟨h1, fun d hd9 => ?_⟩, ho.1, fun h => absurd k2 h⟩
            by_cases hp : pl d = pl e
            · rw [hp]
              exact ⟨ho.1, fun _ => ho.2 (show (4 : Int) ≠ 2 by decide)⟩
            · exact h2 d (mem_wth.2 (.inr ⟨hd9, hp⟩))
        · rintro (⟨h1, h2⟩ | ⟨⟨d, hd9, h1, h2⟩ | ⟨h1, h2⟩, h3, _⟩)
          · exact .inl ⟨oE e.1, mem_wth.2 (.inl rfl), (show (4 : Int) ≠ 3 by decide), h2.trans hso.symm⟩
          · exact .inl ⟨d, mem_wth.2 (.inr ⟨hd9, by rw [h2, pl_sh] at h3; exact h3⟩), h1, h2⟩
          · refine .inr ⟨h1, fun d hd9 => ?_⟩
            rcases mem_wth.1 hd9 with rfl | ⟨h5, _⟩
            · refine ⟨h3, fun _ => ?_⟩
              have := (h2 g g1).2 (by omega)
              rw [g2] at this
              exact this
            · exact h2 d h5
      · rw [if_neg hg] at hm
        rw [hm]
        have hgk := kind_of (hr g g1)
        have hsg : sh g = sh e := by
          rw [hshe]
          unfold sh
          rw [if_neg (by omega), path_eq g2, ← path_eq rfl]
        constructor
        · intro h
          by_cases hp : pl x = pl e
          · rcases h with ⟨d, hd9, h1, h2⟩ | ⟨_, h2⟩
            · have : d = g := asc_inj hA hd9 g1 (by rw [g2, ← hp, h2, pl_sh])
              exact .inl ⟨by omega, by rw [h2, this, hsg]⟩
            · exact absurd (hp.trans g2.symm) (h2 g g1).1
          · exact .inr ⟨h, hp, fun h => absurd k2 h⟩
        · rintro (⟨h1, h2⟩ | ⟨h, _, _⟩)
          · exact .inl ⟨g, g1, by omega, by rw [hsg]; exact h2⟩
          · exact h
  · have hm : one15 l e = wth (rst l (pl e)) e := by unfold one15; rw [if_neg k2]
    rw [hm]
    constructor
    · rintro (⟨d, hd9, h1, h2⟩ | ⟨h1, h2⟩)
      · rcases mem_wth.1 hd9 with rfl | ⟨h3, h4⟩
        · exact .inl ⟨h1, h2⟩
        · obtain ⟨h5, h6, h7⟩ := mem_rst.1 h3
          exact .inr ⟨.inl ⟨d, h5, h1, h2⟩, by rw [h2, pl_sh]; exact h4, fun _ => by rw [h2, pl_sh]; exact h6⟩
      · obtain ⟨h3, h4⟩ := h2 e (mem_wth.2 (.inl rfl))
        have h4 := h4 k2
        refine .inr ⟨.inr ⟨h1, fun d hd9 => ?_⟩, h3, fun _ => h4⟩
        by_cases hp : und (pl d) (pl e) = false ∧ pl d ≠ pl e
        · exact h2 d (mem_wth.2 (.inr ⟨mem_rst.2 ⟨hd9, hp⟩, hp.2⟩))
        · by_cases hq : pl d = pl e
          · rw [hq]
            exact ⟨h3, fun _ => h4⟩
          · have hu : und (pl d) (pl e) = true := by
              cases h : und (pl d) (pl e) with
              | true => rfl
              | false => exact absurd ⟨h, hq⟩ hp
            refine ⟨fun h => ?_, fun _ => ?_⟩
            · rw [h, hu] at h4
              cases h4
            · cases h : und (pl x) (pl d) with
              | false => rfl
              | true =>
                rw [und_trans12 h hu] at h4
                cases h4
    · rintro (⟨h1, h2⟩ | ⟨⟨d, hd9, h1, h2⟩ | ⟨h1, h2⟩, h3, h4⟩)
      · exact .inl ⟨e, mem_wth.2 (.inl rfl), h1, h2⟩
      · rw [h2, pl_sh] at h3 h4
        exact .inl ⟨d, mem_wth.2 (.inr ⟨mem_rst.2 ⟨hd9, h4 k2, h3⟩, h3⟩), h1, h2⟩
      · refine .inr ⟨h1, fun d hd9 => ?_⟩
        rcases mem_wth.1 hd9 with rfl | ⟨h5, _⟩
        · exact ⟨h3, h4⟩
        · exact h2 d (mem_rst.1 h5).1
/-- Both, laid one by one, make what the one makes. -/
theorem over_mrg : ∀ {h t l : List Ent}, Asc t → (∀ d ∈ l, rE d = true) → Asc l → (∀ d ∈ h, rE d = true) → over t (mrg l h) = over (over t l) h := by
  have key : ∀ (h l : List Ent), (∀ d ∈ l, rE d = true) → Asc l → (∀ d ∈ h, rE d = true) → ∀ t, Asc t → over t (mrg l h) = over (over t l) h := by
    intro h
    induction h with
    | nil => intro l _ _ _ t _; rfl
    | cons e r ih =>
      intro l hr hA hh t ht
      show over t (mrg (one15 l e) r) = over (over1 (over t l) e) r
      rw [← over_one ht hr hA (hh e (by simp))]
      exact ih _ (one_rE hr (hh e (by simp))) (one_asc hA e) (fun d hd9 => hh d (by simp [hd9])) t ht
  exact fun {h t l} ht hr hA hh => key h l hr hA hh t ht
/-- A layer with one entry more, whose directory is there. -/
theorem rl_wth15 {l : List Ent} {e : Ent} (h : RL l) (he : rE e = true) (hin : inD l e) (hx : ∀ x ∈ l, pl x = pl e → hd x = true → hd e = true) : RL (wth l e) := by
  obtain ⟨t1, t2, t3⟩ := h
  have up : ∀ x : Ent, inD l x → inD (wth l e) x := fun x h => by
    refine h.imp_right ?_
    rintro ⟨d, hd1, hd2, hd3⟩
    by_cases hp : pl d = pl e
    · exact ⟨e, mem_wth.2 (.inl rfl), hp ▸ hd2, hx d hd1 hp hd3⟩
    · exact ⟨d, mem_wth.2 (.inr ⟨hd1, hp⟩), hd2, hd3⟩
  refine ⟨fun x hx => ?_, asc_wth t2 e, fun x hx => ?_⟩
  · rcases mem_wth.1 hx with rfl | ⟨h, _⟩
    · exact he
    · exact t1 x h
  · rcases mem_wth.1 hx with rfl | ⟨h, _⟩
    · exact up _ hin
    · exact up x (t3 x h)
theorem rl_one {l : List Ent} {e : Ent} (h : RL l) (he : rE e = true) (hin : inD l e) : RL (one15 l e) := by
  have hA := h.2.1
  unfold one15
  by_cases k2 : e.2.1 = 2
  · rw [if_pos k2]
    have hde : hd e = true := by unfold hd; rw [k2]; rfl
    cases hf : fnd l (pl e) with
    | none => exact rl_wth15 h he hin fun _ _ _ _ => hde
    | some d =>
      simp only
      split
      · exact rl_wth15 h (rE_oE he) hin fun _ _ _ _ => rfl
      · exact h
  · rw [if_neg k2]
    obtain ⟨p1, p2⟩ := rE_isP he
    refine rl_wth15 (rl_rst h _) he ?_ fun x hx hp _ => absurd hp (mem_rst.1 hx).2.2
    refine hin.imp_right ?_
    rintro ⟨d, hd1, hd2, hd3⟩
    have hl := par9_lt p1 p2
    rw [← hd2] at hl
    refine ⟨d, mem_rst.2 ⟨hd1, ?_, lt8_ne hl⟩, hd2, hd3⟩
    cases hu : und (pl d) (pl e) with
    | false => rfl
    | true =>
      have := lt8_trans (und_lt hu) hl
      rw [lt8_irr] at this
      cases this
/-- A directory of the high one is one of both. -/
theorem mrg_rE : ∀ (r : List Ent) {l : List Ent}, (∀ d ∈ l, rE d = true) → (∀ d ∈ r, rE d = true) → ∀ d ∈ mrg l r, rE d = true
  | [], _, h, _ => h
  | e :: r, _, h, hr => mrg_rE r (one_rE h (hr e (by simp))) fun d hd9 => hr d (by simp [hd9])
theorem mrg_asc : ∀ (r : List Ent) {l : List Ent}, Asc l → Asc (mrg l r)
  | [], _, h => h
  | e :: r, _, h => mrg_asc r (one_asc h e)
theorem hd_mrg (l : List Ent) (hrl : ∀ d ∈ l, rE d = true) (hA : Asc l) : ∀ n (h : List Ent), h.length = n → Asc h → (∀ e ∈ h, rE e = true) → ∀ d ∈ h, hd d = true → ∃ x ∈ mrg l h, pl x = pl d ∧ hd x = true
  | 0, h, hn, _, _, d, hd1, _ => by rw [List.length_eq_zero_iff.1 hn] at hd1; cases hd1
  | n + 1, h, hn, hAh, hr, d, hd1, hd2 => by
    rcases List.eq_nil_or_concat h with rfl | ⟨r, b, rfl⟩
    · simp at hn
    · rw [List.concat_eq_append] at *
      obtain ⟨a1, a2⟩ := asc_snoc.1 hAh
      have hAm : Asc (mrg l r) := mrg_asc r hA
      rw [mrg_snoc]
      rcases List.mem_append.1 hd1 with h1 | h1
      · obtain ⟨x, x1, x2, x3⟩ := hd_mrg l hrl hA n r (by simpa using hn) a1 (fun e he => hr e (by simp [he])) d h1 hd2
        have hlt : lt8 (pl x) (pl b) = true := by rw [x2]; exact a2 d h1
        refine ⟨x, ?_, x2, x3⟩
        unfold one15
        split
        · split
          · exact mem_wth.2 (.inr ⟨x1, lt8_ne hlt⟩)
          · split
            · exact mem_wth.2 (.inr ⟨x1, lt8_ne hlt⟩)
            · exact x1
        · refine mem_wth.2 (.inr ⟨mem_rst.2 ⟨x1, ?_, lt8_ne hlt⟩, lt8_ne hlt⟩)
          cases hu : und (pl x) (pl b) with
          | false => rfl
          | true =>
            have := lt8_trans (und_lt hu) hlt
            rw [lt8_irr] at this
            cases this
      · obtain rfl : d = b := by simpa using h1
        unfold one15
        by_cases k2 : d.2.1 = 2
        · rw [if_pos k2]
          cases hf : fnd (mrg l r) (pl d) with
          | none => exact ⟨d, mem_wth.2 (.inl rfl), rfl, hd2⟩
          | some g =>
            obtain ⟨g1, g2⟩ := (fnd_some hAm).1 hf
            simp only
            by_cases hg : g.2.1 = 1 ∨ g.2.1 = 3
            · rw [if_pos hg]
              exact ⟨oE d.1, mem_wth.2 (.inl rfl), rfl, rfl⟩
            · rw [if_neg hg]
              have hk := kind_of (mrg_rE r hrl (fun e he => hr e (by simp [he])) g g1)
              refine ⟨g, g1, g2, ?_⟩
              unfold hd
              simp only [Bool.or_eq_true, beq_iff_eq]
              omega
        · rw [if_neg k2]
          exact ⟨d, mem_wth.2 (.inl rfl), rfl, hd2⟩
/-- Two layers made one are a layer, but for its size. -/
theorem rl_mrg {l : List Ent} (hl : RL l) : ∀ n (h : List Ent), h.length = n → RL h → RL (mrg l h)
  | 0, h, hn, _ => by rw [List.length_eq_zero_iff.1 hn]; exact hl
  | n + 1, h, hn, hR => by
    rcases List.eq_nil_or_concat h with rfl | ⟨r, b, rfl⟩
    · simp at hn
    · rw [List.concat_eq_append] at *
      obtain ⟨r1, r2, _, r4⟩ := rl_snoc.1 hR
      rw [mrg_snoc]
      refine rl_one (rl_mrg hl n r (by simpa using hn) r1) r2 (r4.imp_right ?_)
      rintro ⟨d, hd1, hd2, hd3⟩
      obtain ⟨x, x1, x2, x3⟩ := hd_mrg l hl.1 hl.2.1 _ r rfl r1.2.1 r1.1 d hd1 hd3
      exact ⟨x, x1, x2.trans hd2, x3⟩
theorem one_len (l : List Ent) (e : Ent) : (one15 l e).length ≤ l.length + 1 := by
  have h1 := wth_le l e
  have h2 := wth_le l (oE e.1)
  have h3 := wth_le (rst l (pl e)) e
  have h4 := len_rst l (pl e)
  unfold one15
  split
  · split
    · exact h1
    · split
      · exact h2
      · omega
  · omega
theorem mrg_len : ∀ (h l : List Ent), (mrg l h).length ≤ l.length + h.length
  | [], l => by simp [mrg]
  | e :: r, l => by
    have h1 := one_len l e
    have h2 := mrg_len r (one15 l e)
    show (mrg (one15 l e) r).length ≤ _
    rw [List.length_cons]
    omega
theorem bot_sh {l : List Ent} (hr : ∀ e ∈ l, rE e = true) : bot15 l = (l.filter fun e => decide (e.2.1 ≠ 3)).map sh := by
  unfold bot15
  refine List.map_congr_left fun e he => ?_
  obtain ⟨h1, h2⟩ := List.mem_filter.1 he
  have hk := kind_of (hr e h1)
  have h3 := of_decide_eq_true h2
  obtain ⟨_, _, _, _, h5⟩ := rightE_parts (hr e h1)
  by_cases k4 : e.2.1 = 4
  · rw [if_pos k4]
    unfold sh dE
    rw [if_neg (by omega)]
    have : e.2.2 = ⟨#[]⟩ := by
      rcases h5 with h5 | h5
      · omega
      · exact ba_ext (List.length_eq_zero_iff.1 (by rw [← Lib.size_eq]; exact h5))
    rw [this]
  · rw [if_neg k4]
    exact (sh_tree (hr e h1) (by omega)).symm
/-- A layer at the bottom is what it shows. -/
theorem bot_over {l : List Ent} (h : RL l) : bot15 l = over [] l := by
  rw [bot_sh h.1]
  have hA : Asc ((l.filter fun e => decide (e.2.1 ≠ 3)).map sh) := by
    refine List.pairwise_map.2 ((h.2.1.filter _).imp fun {a b} hab => ?_)
    rw [pl_sh, pl_sh]
    exact hab
  refine asc_ext hA (asc_over List.Pairwise.nil) fun x => ?_
  rw [mem_over h.1 h.2.1, List.mem_map]
  constructor
  · rintro ⟨e, he, rfl⟩
    obtain ⟨h1, h2⟩ := List.mem_filter.1 he
    exact .inl ⟨e, h1, of_decide_eq_true h2, rfl⟩
  · rintro (⟨e, he, h1, rfl⟩ | ⟨h1, _⟩)
    · exact ⟨e, List.mem_filter.2 ⟨he, decide_eq_true h1⟩, rfl⟩
    · cases h1
theorem tr_bot {l : List Ent} (h : RL l) : TR (bot15 l) := by rw [bot_over h]; exact tr_over tr_nil h
theorem bot_len (l : List Ent) : (bot15 l).length ≤ l.length := by
  unfold bot15
  rw [List.length_map]
  exact List.length_filter_le ..
theorem bot_tree {t : List Ent} (h : TR t) : bot15 t = t := by rw [bot_over h.1, over_nil h]
/-- What two layers come to. -/
def two15 (low high : List Ent) (b : Bool) : List Ent := if b = true then bot15 (mrg low high) else mrg low high
theorem rl_two {low high : List Ent} (hl : RL low) (hh : RL high) (b : Bool) : RL (two15 low high b) := by
  unfold two15
  split
  · exact (tr_bot (rl_mrg hl _ high rfl hh)).1
  · exact rl_mrg hl _ high rfl hh
theorem two_len (low high : List Ent) (b : Bool) : (two15 low high b).length ≤ low.length + high.length := by
  have h1 := mrg_len high low
  have h2 := bot_len (mrg low high)
  unfold two15
  split <;> omega
/-- A stack shows the same with both, and with the one. -/
theorem stk_two15 {a c : List (List Ent)} {low high : List Ent} (ha : ∀ l ∈ a, RightL l) (hl : RL low) (hh : RL high) (b : Bool) (hb : b = true → a = []) : stk (a ++ [low, high] ++ c) = stk (a ++ [two15 low high b] ++ c) := by
  have key : stk (a ++ [low, high]) = stk (a ++ [two15 low high b]) := by
    have e1 : a ++ [low, high] = (a ++ [low]) ++ [high] := by simp
    rw [e1, stk_snoc, stk_snoc, stk_snoc]
    have ht := (tr_stk ha).1.2.1
    rw [← over_mrg ht hl.1 hl.2.1 hh.1]
    unfold two15
    by_cases h : b = true
    · rw [if_pos h, hb h]
      show over [] (mrg low high) = over [] (bot15 (mrg low high))
      have hR := rl_mrg hl _ high rfl hh
      rw [bot_over hR, over_nil (tr_over tr_nil hR)]
    · rw [if_neg h]
  unfold stk at key ⊢
  rw [List.foldl_append, List.foldl_append (l := a ++ [two15 low high b]), key]
theorem mrg_nil (l : List Ent) : mrg l [] = l := rfl
/-- A layer over nothing. -/
theorem nil_mrg {h : List Ent} (hA : Asc h) : mrg [] h = h := by
  have key : ∀ n (h : List Ent), h.length = n → Asc h → mrg [] h = h := by
    intro n
    induction n with
    | zero => intro h hn _; rw [List.length_eq_zero_iff.1 hn]; rfl
    | succ n ih =>
      intro h hn hA
      rcases List.eq_nil_or_concat h with rfl | ⟨r, b, rfl⟩
      · rfl
      · rw [List.concat_eq_append] at *
        obtain ⟨a1, a2⟩ := asc_snoc.1 hA
        rw [mrg_snoc, ih r (by simpa using hn) a1]
        unfold one15
        split
        · rw [fnd_none.2 fun e he => lt8_ne (a2 e he)]
          exact wth_snoc a2
        · have : rst r (pl b) = r := by
            unfold rst
            refine List.filter_eq_self.2 fun e he => ?_
            have h1 := a2 e he
            have h2 : und (pl e) (pl b) = false := by
              cases hu : und (pl e) (pl b) with
              | false => rfl
              | true =>
                have := lt8_trans (und_lt hu) h1
                rw [lt8_irr] at this
                cases this
            rw [h2, decide_eq_true (lt8_ne h1)]
            rfl
          rw [this]
          exact wth_snoc a2
  exact key _ h rfl hA
/-- A layer with itself shows the same as once. -/
theorem mrg_self {l : List Ent} (h : RL l) : over [] (mrg l l) = over [] l := by
  rw [over_mrg List.Pairwise.nil h.1 h.2.1 h.1, over_twice List.Pairwise.nil h.1 h.2.1]
end Go.Proofs.YtlnjbadbpddlmaaDoor

namespace Go.Proofs.YtlnjbadbpddlmaaDoor
open Go.RowKit

theorem lt8_flip {a b : List UInt8} (h : lt8 a b = false) (hn : a ≠ b) : lt8 b a = true := by
  rcases lt8_tri a b with h1 | h1 | h1
  · exact absurd h1 hn
  · rw [h] at h1
    cases h1
  · exact h1
/-- An entry put ahead of the first one that isn't less. -/
theorem wth_at15 {l : List Ent} (hA : Asc l) {e x : Ent} {k : Nat} (hx : l[k]? = some x) (hb : ∀ y ∈ l.take k, lt8 (pl y) (pl e) = true) (hn : lt8 (pl x) (pl e) = false) (hd : ∀ y ∈ l, pl y ≠ pl e) : wth l e = l.take k ++ e :: l.drop k := by
  have hlt : k < l.length := (List.getElem?_eq_some_iff.1 hx).1
  have hex : lt8 (pl e) (pl x) = true := lt8_flip hn (hd x (List.mem_of_getElem? hx))
  have hdr : ∀ y ∈ l.drop k, lt8 (pl e) (pl y) = true := by
    intro y hy
    have hA2 : Asc (l.drop k) := List.Pairwise.sublist (List.drop_sublist k l) hA
    rw [List.drop_eq_getElem_cons hlt] at hy hA2
    have h9 : l[k] = x := by
      rw [List.getElem?_eq_getElem hlt] at hx
      exact Option.some.inj hx
    rw [h9] at hy hA2
    rcases List.mem_cons.1 hy with rfl | hy
    · exact hex
    · exact lt8_trans hex ((List.pairwise_cons.1 hA2).1 y hy)
  have h1 : l.filter (fun a => lt8 (pl a) (pl e)) = l.take k := by
    conv => lhs; rw [← List.take_append_drop k l]
    rw [List.filter_append, List.filter_eq_self.2 hb, List.filter_eq_nil_iff.2 (fun y hy => by rw [lt8_asymm (hdr y hy)]; simp), List.append_nil]
  have h2 : l.filter (fun a => lt8 (pl e) (pl a)) = l.drop k := by
    conv => lhs; rw [← List.take_append_drop k l]
    rw [List.filter_append, List.filter_eq_self.2 hdr, List.filter_eq_nil_iff.2 (fun y hy => by rw [lt8_asymm (hb y hy)]; simp), List.nil_append]
  unfold wth
  rw [h1, h2]
theorem wth_end15 {l : List Ent} {e : Ent} (hb : ∀ y ∈ l, lt8 (pl y) (pl e) = true) : wth l e = l ++ [e] := wth_snoc hb
/-- What an entry becomes that a directory is laid over. -/
def rep15 (e x : Ent) : Ent := if pl x = pl e ∧ (x.2.1 = 1 ∨ x.2.1 = 3) then oE e.1 else x
/-- Does anything stand at the path? -/
def is15 (e : Ent) (l : List Ent) : Bool := l.any fun x => decide (pl x = pl e)
theorem is_none15 {e : Ent} {l : List Ent} (h : is15 e l = false) : (∀ y ∈ l, pl y ≠ pl e) ∧ fnd l (pl e) = none := by
  have h1 : ∀ y ∈ l, pl y ≠ pl e := by
    unfold is15 at h
    rw [List.any_eq_false] at h
    intro y hy h2
    exact h y hy (by simp [h2])
  exact ⟨h1, fnd_none.2 h1⟩
theorem rep_same15 {e : Ent} : ∀ {l : List Ent}, (∀ y ∈ l, pl y ≠ pl e) → l.map (rep15 e) = l
  | [], _ => rfl
  | x :: r, h => by
    rw [List.map_cons, rep_same15 (l := r) fun y hy => h y (List.mem_cons_of_mem _ hy)]
    unfold rep15
    rw [if_neg (fun h9 => h x List.mem_cons_self h9.1)]
theorem rep_pl15 (e x : Ent) : pl (rep15 e x) = pl x := by
  unfold rep15
  split
  · rename_i h
    rw [h.1, pl_oE]
  · rfl
theorem rep_some15 {e : Ent} {l : List Ent} (hA : Asc l) (h : is15 e l = true) : ∃ d, fnd l (pl e) = some d ∧ l.map (rep15 e) = if d.2.1 = 1 ∨ d.2.1 = 3 then wth l (oE e.1) else l := by
  unfold is15 at h
  obtain ⟨d, hd1, hd2⟩ := List.any_eq_true.1 h
  have hd2 : pl d = pl e := by simpa using hd2
  refine ⟨d, (fnd_some hA).2 ⟨hd1, hd2⟩, ?_⟩
  have hun : ∀ y ∈ l, pl y = pl e → y = d := fun y hy h9 => asc_inj hA hy hd1 (h9.trans hd2.symm)
  by_cases hk : d.2.1 = 1 ∨ d.2.1 = 3
  · rw [if_pos hk]
    have hAm : Asc (l.map (rep15 e)) := by
      unfold Asc at hA ⊢
      rw [List.pairwise_map]
      exact hA.imp fun h9 => by rw [rep_pl15, rep_pl15]; exact h9
    refine asc_ext hAm (asc_wth hA _) fun x => ?_
    have hpo : pl (oE e.1) = pl e := rfl
    rw [mem_wth, List.mem_map, hpo]
    constructor
    · rintro ⟨y, hy, rfl⟩
      by_cases hp : pl y = pl e
      · left
        rw [hun y hy hp]
        unfold rep15
        rw [if_pos ⟨hd2, hk⟩]
      · right
        unfold rep15
        rw [if_neg (fun h9 => hp h9.1)]
        exact ⟨hy, hp⟩
    · rintro (rfl | ⟨hx, hp⟩)
      · exact ⟨d, hd1, by unfold rep15; rw [if_pos ⟨hd2, hk⟩]⟩
      · exact ⟨x, hx, by unfold rep15; rw [if_neg (fun h9 => hp h9.1)]⟩
  · rw [if_neg hk]
    conv => rhs; rw [← List.map_id l]
    refine List.map_congr_left fun y hy => ?_
    unfold rep15
    by_cases hp : pl y = pl e
    · rw [hun y hy hp, if_neg (fun h9 => hk h9.2)]
      rfl
    · rw [if_neg (fun h9 => hp h9.1)]
      rfl
/-- What a directory laid over a layer makes of it. -/
theorem one_dir15 {l : List Ent} (hA : Asc l) {e : Ent} (hk : e.2.1 = 2) : one15 l e = if is15 e l then l.map (rep15 e) else wth l e := by
  cases h : is15 e l with
  | true =>
    obtain ⟨d, h1, h2⟩ := rep_some15 hA h
    rw [if_pos rfl, h2]
    unfold one15
    rw [if_pos hk, h1]
  | false =>
    rw [if_neg (by simp)]
    unfold one15
    rw [if_pos hk, (is_none15 h).2]
theorem one_else15 {l : List Ent} {e : Ent} (hk : e.2.1 ≠ 2) : one15 l e = wth (rst l (pl e)) e := by
  unfold one15
  rw [if_neg hk]
theorem rst_apart15 {l : List Ent} {p : List UInt8} : ∀ y ∈ rst l p, pl y ≠ p := fun _ hy => (mem_rst.1 hy).2.2
theorem len_wth15 (l : List Ent) (e : Ent) : (wth l e).length ≤ l.length + 1 := by
  unfold wth
  rw [List.length_append, List.length_cons]
  have : (l.filter fun a => lt8 (pl a) (pl e)).length + (l.filter fun a => lt8 (pl e) (pl a)).length ≤ l.length := by
    induction l with
    | nil => simp
    | cons x r ih =>
      rw [List.filter_cons, List.filter_cons]
      cases h1 : lt8 (pl x) (pl e) with
      | true =>
        rw [lt8_asymm h1]
        simp only [if_true, List.length_cons]
        rw [if_neg (by simp)]
        omega
      | false =>
        rw [if_neg (by simp)]
        split <;> simp only [List.length_cons] <;> omega
  omega
theorem len_one15 (l : List Ent) (e : Ent) : (one15 l e).length ≤ l.length + 1 := by
  unfold one15
  split
  · split
    · exact len_wth15 l e
    · split
      · exact len_wth15 l _
      · omega
  · have h1 := len_wth15 (rst l (pl e)) e
    have h2 := len_rst l (pl e)
    omega
/-- At the bottom: one entry after the other. -/
def bu15 (e : Ent) : List Ent := if e.2.1 = 3 then [] else if e.2.1 = 4 then [(e.1, 2, e.2.2)] else [e]
theorem bot_cons15 (e : Ent) (l : List Ent) : bot15 (e :: l) = bu15 e ++ bot15 l := by
  unfold bot15 bu15
  by_cases h3 : e.2.1 = 3
  · rw [List.filter_cons, if_neg (by simp [h3]), if_pos h3, List.nil_append]
  · rw [List.filter_cons, if_pos (by simp [h3]), if_neg h3, List.map_cons]
    by_cases h4 : e.2.1 = 4
    · rw [if_pos h4, if_pos h4]
      rfl
    · rw [if_neg h4, if_neg h4]
      rfl
theorem bot_snoc15 : ∀ (l : List Ent) (e : Ent), bot15 (l ++ [e]) = bot15 l ++ bu15 e
  | [], e => by
    rw [List.nil_append, bot_cons15]
    show bu15 e ++ [] = [] ++ bu15 e
    simp
  | x :: r, e => by rw [List.cons_append, bot_cons15, bot_cons15, bot_snoc15 r e, List.append_assoc]
theorem bot_len15 (l : List Ent) : (bot15 l).length ≤ l.length := by
  unfold bot15
  rw [List.length_map]
  exact List.length_filter_le _ _
end Go.Proofs.YtlnjbadbpddlmaaDoor
