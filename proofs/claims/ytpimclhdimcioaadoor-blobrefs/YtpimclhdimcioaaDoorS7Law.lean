/-
  What the statements of layer 7 share: a text put on a disk that is up, without a budget: what is on the disk then, what is got; Put and Get of a disk of a call's own. Conditions: as each says.
-/
import Derived.Test.YtpimclhdimcioaaDoorS7Get2
namespace Go.Proofs.YtpimclhdimcioaaDoor
open Go.RowKit Go.Maps

/-- The writes of a text's sectors. -/
def puts (k : Int) (l : List UInt8) : Nat → Nat → List WrL
  | 0, _ => []
  | n + 1, i => (k + (i : Int), sec l i) :: puts k l n (i + 1)
theorem puts_len (k : Int) (l : List UInt8) : ∀ n i, (puts k l n i).length = n
  | 0, _ => rfl
  | n + 1, i => by rw [puts, List.length_cons, puts_len k l n]
/-- A disk that is up, without a budget. -/
def DskV.Up (D : DskV) : Prop := D.down = false ∧ D.budget = -1
theorem Up.why {D : DskV} (h : D.Up) {i : Int} (h0 : 0 ≤ i) (h1 : i < D.size) : D.why i = 0 := by
  unfold DskV.why
  rw [h.1, if_neg (by decide), if_neg (by omega)]
theorem Up.refuse {D : DskV} (h : D.Up) {i : Int} (h0 : 0 ≤ i) (h1 : i < D.size) : D.refuse i = 0 := by
  unfold DskV.refuse
  rw [if_pos (Up.why h h0 h1), h.2]
  rfl
theorem Up.write {D : DskV} (h : D.Up) (i : Int) (p : PgL) : D.write i p = { D with soft := D.soft ++ [(i, p)] } := by
  have e : D.bud = D.budget := by
    unfold DskV.bud
    rw [if_pos h.2, h.2]
  unfold DskV.write
  rw [e]
theorem Up.seen {D : DskV} (h : D.Up) {i : Int} (h0 : 0 ≤ i) (h1 : i < D.size) : D.seen i = D.read i := if_pos (Up.why h h0 h1)
theorem up_fresh (n : Int) : (DskV.fresh n).Up := ⟨rfl, rfl⟩
/-- The disk behind a text that was put. -/
def put7 (D : DskV) (k : Int) (l : List UInt8) (n : Nat) : DskV := { D with soft := D.soft ++ puts k l n 0 }
theorem putGo_up (k : Int) (l : List UInt8) : ∀ (n i : Nat) (D : DskV), D.Up → 0 ≤ k + (i : Int) → k + (i : Int) + (n : Int) ≤ D.size → putGo k l n i D = ({ D with soft := D.soft ++ puts k l n i }, 0)
  | 0, i, D, _, _, _ => by simp [putGo, puts]
  | n + 1, i, D, hu, h0, h1 => by
    rw [putGo, if_pos (Up.refuse hu h0 (by omega)), Up.write hu]
    rw [putGo_up k l n (i + 1) { D with soft := D.soft ++ [(k + (i : Int), sec l i)] } hu (by omega) (by show k + ((i + 1 : Nat) : Int) + (n : Int) ≤ D.size; omega)]
    simp [puts]
theorem put7_up {D : DskV} (h : D.Up) (k : Int) (l : List UInt8) (n : Nat) : (put7 D k l n).Up := h
theorem put7_soft (D : DskV) (k : Int) (l : List UInt8) (n : Nat) : (put7 D k l n).soft.length = D.soft.length + n := by
  show (D.soft ++ puts k l n 0).length = _
  rw [List.length_append, puts_len]
theorem lst_puts (k : Int) (l : List UInt8) (x : Int) : ∀ (n i : Nat) (z : PgL), lst (puts k l n i) x z = if k + (i : Int) ≤ x ∧ x < k + (i : Int) + (n : Int) then sec l (x - k).toNat else z
  | 0, i, z => by rw [if_neg (by omega)]; rfl
  | n + 1, i, z => by
    have h : lst (puts k l (n + 1) i) x z = lst (puts k l n (i + 1)) x (if k + (i : Int) = x then sec l i else z) := rfl
    rw [h, lst_puts k l x n (i + 1)]
    by_cases e : k + (i : Int) = x
    · rw [if_pos e, if_neg (by omega), if_pos (by omega)]
      congr 1
      omega
    · rw [if_neg e]
      by_cases h2 : k + (i : Int) ≤ x ∧ x < k + (i : Int) + ((n + 1 : Nat) : Int)
      · rw [if_pos h2, if_pos (by omega)]
      · rw [if_neg h2, if_neg (by omega)]
theorem read_put7 (D : DskV) (k : Int) (l : List UInt8) (n : Nat) (x : Int) : (put7 D k l n).read x = if k ≤ x ∧ x < k + (n : Int) then sec l (x - k).toNat else D.read x := by
  show lst (D.soft ++ puts k l n 0) x (D.firm x) = _
  rw [lst_append, lst_puts, show k + ((0 : Nat) : Int) = k by omega]
  rfl
theorem seen_put7 {D : DskV} (h : D.Up) (k : Int) (l : List UInt8) (n : Nat) {x : Int} (h0 : 0 ≤ x) (h1 : x < D.size) : (put7 D k l n).seen x = if k ≤ x ∧ x < k + (n : Int) then sec l (x - k).toNat else D.seen x := by
  rw [Up.seen (put7_up h k l n) h0 h1, read_put7, Up.seen h h0 h1]
/-- Sectors that hold a text: it is got. -/
theorem got_of {D : DskV} {k : Int} {l : List UInt8} {n : Nat} (hn : l.length = n) (h : ∀ i, i < npg n → D.seen (k + (i : Int)) = sec l i) : gotL D k n = l := by
  unfold gotL
  rw [joined_congr h, ← hn]
  exact joined_back l
theorem got_put7 {D : DskV} (h : D.Up) {k : Int} {l : List UInt8} {n : Nat} (hn : l.length = n) (h0 : 0 ≤ k) (h1 : k + (npg n : Int) ≤ D.size) : gotL (put7 D k l (npg n)) k n = l := by
  refine got_of hn fun i hi => ?_
  rw [seen_put7 h _ _ _ (by omega) (by omega), if_pos (by omega)]
  congr 1
  omega
theorem rt_of {k n size : Int} (h1 : 1 ≤ n) (h2 : n ≤ 16384) (h3 : 0 ≤ k) (h4 : k + pgs n ≤ size) : rt k n size = true := by
  have : 0 < pgs n := by unfold pgs; rw [if_neg (by omega)]; omega
  unfold rt
  simp
  omega
section
variable {W w : World} {B : Nat} {F : Nat → Prop} {b : Nat} {D : DskV}
theorem ses_put (h : Ses W B F b D w) (hB : 0 < B) (hu : D.Up) (k : Int) (s : ByteArray) (h1 : 1 ≤ s.size) (h2 : s.size ≤ 16384) (h3 : 0 ≤ k) (h4 : k + (npg s.size : Int) ≤ D.size) (hf : D.soft.length + npg s.size ≤ 1000) :
    Calls Tryd.prog 10 #[.pointer (some ⟨b, 0, none⟩), .int .i64 k, .string s] w fun e w' => e = .returned (.tuple #[refV k (s.size : Int) (adl s.data.toList), .nilIface]) ∧ ∃ F', Ses W B F' b (put7 D k s.data.toList (npg s.size)) w' ∧ Did F F' w w' := by
  have hr : rt k (s.size : Int) D.size = true := rt_of (by omega) (by omega) h3 (by rw [pgs_nat h1 h2]; exact h4)
  refine (put_run h.dsk k s h1 h2 hr hf).mono ?_
  rintro e w' ⟨rfl, F', hd, hdid⟩
  rw [putGo_up k s.data.toList (npg s.size) 0 D hu (by omega) (by omega)] at hd ⊢
  exact ⟨rfl, F', h.step hB hd hdid, hdid⟩
theorem ses_get (h : Ses W B F b D w) (hd : D.down = false) (k : Int) (n : Nat) (s : Int) (h1 : 1 ≤ n) (h2 : n ≤ 16384) (h3 : 0 ≤ k) (h4 : k + (npg n : Int) ≤ D.size) :
    Calls Tryd.prog 11 #[.pointer (some ⟨b, 0, none⟩), refV k (n : Int) s] w fun e w' => e = .returned (.tuple #[.string (if adl (gotL D k n) = s then bs (gotL D k n) else ⟨#[]⟩), errV (if adl (gotL D k n) = s then 0 else 12)]) ∧ Ses W B F b D w' ∧ Below w.heap.size w w' := by
  have hr : rt k (n : Int) D.size = true := rt_of (by omega) (by omega) h3 (by rw [pgs_nat h1 h2]; exact h4)
  refine (get_run h.dsk hd k n s hr).mono ?_
  rintro e w' ⟨rfl, hb⟩
  exact ⟨rfl, h.keep hb, hb⟩
end
theorem codeZ (w : World) : Calls Tryd.prog 12 #[.nilIface] w fun e w' => e = .returned (.int .i64 0) ∧ w = w' := code_zero w
end Go.Proofs.YtpimclhdimcioaaDoor
