/-
  A text cut into sectors of 64 bytes, zero bytes behind it; the sectors joined again; one byte of it changed. No condition.
-/
import Derived.WalkKit
namespace Go.Proofs.YtpimclhdimcioaaDoor

/-- How many sectors so many bytes take. -/
def npg (n : Nat) : Nat := (n + 63) / 64
theorem npg_ge (n : Nat) : n ≤ 64 * npg n := by unfold npg; omega
theorem npg_lt {n i : Nat} (h : i < npg n) : 64 * i < n := by unfold npg at h; omega
theorem npg_mono {a b : Nat} (h : a ≤ b) : npg a ≤ npg b := by unfold npg; omega
theorem npg_more (n : Nat) : npg (n + 64) = npg n + 1 := by unfold npg; omega
theorem npg_pos {n : Nat} (h : 1 ≤ n) : 1 ≤ npg n := by unfold npg; omega
theorem npg_at {n c : Nat} (h : c < n) : c / 64 < npg n := by unfold npg; omega

/-- The first n bytes of a text, zero bytes behind it. -/
def fl (l : List UInt8) (n : Nat) : List UInt8 := l.take n ++ List.replicate (n - l.length) 0
theorem fl_len (l : List UInt8) (n : Nat) : (fl l n).length = n := by
  unfold fl
  rw [List.length_append, List.length_take, List.length_replicate]
  omega
theorem fl_get (l : List UInt8) (n j : Nat) (h : j < n) : (fl l n)[j]? = some (l.getD j 0) := by
  unfold fl
  by_cases hj : j < l.length
  · rw [List.getElem?_append_left (by rw [List.length_take]; omega), List.getElem?_take, if_pos h, List.getD_eq_getElem?_getD, List.getElem?_eq_getElem hj]
    rfl
  · rw [List.getElem?_append_right (by rw [List.length_take]; omega), List.getElem?_replicate, if_pos (by rw [List.length_take]; omega), List.getD_eq_getElem?_getD, List.getElem?_eq_none (by omega)]
    rfl
theorem fl_take (l : List UInt8) {n : Nat} (h : l.length ≤ n) : (fl l n).take l.length = l := by
  unfold fl
  rw [List.take_of_length_le h, List.take_left]
/-- A text's sector at a place. -/
def sec (l : List UInt8) (i : Nat) : List UInt8 := (fl l (64 * i + 64)).drop (64 * i)
theorem sec_len (l : List UInt8) (i : Nat) : (sec l i).length = 64 := by
  unfold sec
  rw [List.length_drop, fl_len]
  omega
theorem sec_get (l : List UInt8) (i j : Nat) (h : j < 64) : (sec l i)[j]? = some (l.getD (64 * i + j) 0) := by
  unfold sec
  rw [List.getElem?_drop, fl_get _ _ _ (by omega)]
theorem fl_more (l : List UInt8) (m : Nat) : fl l (64 * (m + 1)) = fl l (64 * m) ++ sec l m := by
  apply List.ext_getElem?
  intro j
  by_cases h1 : j < 64 * m
  · rw [fl_get _ _ _ (by omega), List.getElem?_append_left (by rw [fl_len]; exact h1), fl_get _ _ _ h1]
  · by_cases h2 : j < 64 * (m + 1)
    · rw [fl_get _ _ _ h2, List.getElem?_append_right (by rw [fl_len]; omega), fl_len, sec_get _ _ _ (by omega)]
      congr 2
      omega
    · rw [List.getElem?_eq_none (by rw [fl_len]; omega), List.getElem?_eq_none (by rw [List.length_append, fl_len, sec_len]; omega)]
/-- The sectors of a text, one behind the other. -/
def joined (f : Nat → List UInt8) : Nat → List UInt8
  | 0 => []
  | m + 1 => joined f m ++ f m
theorem joined_sec (l : List UInt8) : ∀ m, joined (sec l) m = fl l (64 * m)
  | 0 => by simp [joined, fl]
  | m + 1 => by rw [joined, joined_sec l m, fl_more]
theorem joined_len (f : Nat → List UInt8) (h : ∀ i, (f i).length = 64) : ∀ m, (joined f m).length = 64 * m
  | 0 => rfl
  | m + 1 => by rw [joined, List.length_append, joined_len f h m, h]; omega
theorem joined_congr {f g : Nat → List UInt8} : ∀ {m : Nat}, (∀ i, i < m → f i = g i) → joined f m = joined g m
  | 0, _ => rfl
  | m + 1, h => by rw [joined, joined, joined_congr (fun i hi => h i (by omega)), h m (by omega)]
/-- What is put, and got: the sectors joined, cut to the text's length, are the text. -/
theorem joined_back (l : List UInt8) : (joined (sec l) (npg l.length)).take l.length = l := by
  rw [joined_sec, fl_take l (npg_ge _)]
/-- Sectors, joined and cut to n bytes, are those of a text, as far as its bytes go. -/
theorem joined_get (f : Nat → List UInt8) (h : ∀ i, (f i).length = 64) : ∀ (m j : Nat), j < 64 * m → (joined f m)[j]? = (f (j / 64))[j % 64]?
  | 0, j, hj => by omega
  | m + 1, j, hj => by
    rw [joined]
    by_cases h1 : j < 64 * m
    · rw [List.getElem?_append_left (by rw [joined_len f h]; exact h1), joined_get f h m j h1]
    · rw [List.getElem?_append_right (by rw [joined_len f h]; omega), joined_len f h]
      have e1 : j / 64 = m := by omega
      have e2 : j - 64 * m = j % 64 := by omega
      rw [e1, e2]
/-- One byte of a text changed: its sector's byte. -/
theorem sec_set (l : List UInt8) (c : Nat) (hc : c < l.length) (x : UInt8) (i : Nat) : sec (l.set c x) i = if i = c / 64 then (sec l i).set (c % 64) x else sec l i := by
  apply List.ext_getElem?
  intro j
  by_cases hj : j < 64
  · rw [sec_get _ _ _ hj, List.getD_eq_getElem?_getD]
    by_cases hi : i = c / 64
    · rw [if_pos hi]
      by_cases h2 : j = c % 64
      · have e : 64 * i + j = c := by omega
        rw [e, List.getElem?_set_self hc, h2, List.getElem?_set_self (by rw [sec_len]; omega)]
        rfl
      · rw [List.getElem?_set_ne (by omega), List.getElem?_set_ne (by omega), sec_get _ _ _ hj, List.getD_eq_getElem?_getD]
    · rw [if_neg hi, List.getElem?_set_ne (by omega), sec_get _ _ _ hj, List.getD_eq_getElem?_getD]
  · rw [List.getElem?_eq_none (by rw [sec_len]; omega), List.getElem?_eq_none]
    split
    · rw [List.length_set, sec_len]; omega
    · rw [sec_len]; omega
end Go.Proofs.YtpimclhdimcioaaDoor
