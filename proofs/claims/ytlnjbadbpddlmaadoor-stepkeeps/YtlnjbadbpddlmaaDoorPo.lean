/-
  A merge step by step, by lists: how many entries a step lays, how many are left behind steps (the document's), what the layer is. No condition.
  What a call that writes some blocks alone leaves as it was. No condition.
  What package step's functions answer, as one statement about a predicate M: what a merge is in memory, which blocks are its own (F), of which layers it is, and how many entries are laid (Step16): the laws of layer 16 are walked over it. Conditions: layers in memory, of at most 1000 entries whose texts have at most 100000 bytes; errorType holds error's type.
  A merge of the landed package step in memory: its struct, the rows that it keeps, which blocks they lie in; what stays of it. No condition.
  The landed package step answers as Step16 says, of merges in memory as M16 has them. No condition beyond that.
  What the statements of layer 16 share: the document's example. Conditions: package step answers as Step16 says; errorType holds error's type.
  The contract of the document's own Left (package shaleref16): how many are left behind steps. Conditions: the steps lie in memory, at most 1000; at most 1000 entries.
-/
import Derived.Test.YtlnjbadbpddlmaaDoorPd
import Derived.Below
import Derived.Laws.AppendOwn
import Derived.Test.YtlnjbadbpddlmaaDoorPc
import Derived.Test.YtlnjbadbpddlmaaDoorPb
import Derived.Test.YtlnjbadbpddlmaaDoorPm
import Derived.Deep.LoopGhost
import Derived.Lib.Hide
import Derived.IntWalk
namespace Go.Proofs.YtlnjbadbpddlmaaDoor
open Go.RowKit

/-- How many a step lays, of h entries of which k are laid. -/
def stL (h k : Nat) (n : Int) : Nat := if 1 ≤ n then min n.toNat (h - k) else 0
/-- Of n that are left, behind a step. -/
def lf1 (n : Nat) (s : Int) : Nat := if (n : Int) ≤ s then 0 else if 0 < s then n - s.toNat else n
def leftR (h : Nat) (l : List Int) : Nat := l.foldl lf1 h
theorem leftR_snoc (h : Nat) (l : List Int) (s : Int) : leftR h (l ++ [s]) = lf1 (leftR h l) s := by unfold leftR; rw [List.foldl_append]; rfl
theorem stL_le {h k : Nat} (hk : k ≤ h) (n : Int) : k + stL h k n ≤ h := by
  unfold stL
  split <;> omega
theorem lf1_step {h k : Nat} (hk : k ≤ h) (s : Int) : lf1 (h - k) s = h - (k + stL h k s) := by
  unfold lf1 stL
  split
  · split <;> omega
  · split
    · rw [if_pos (by omega)]
      omega
    · rw [if_neg (by omega)]
      omega
theorem lf1_zero (s : Int) : lf1 0 s = 0 := by
  unfold lf1
  split
  · rfl
  · split <;> omega
theorem leftR_zero : ∀ (l : List Int), leftR 0 l = 0
  | [] => rfl
  | s :: r => by
    unfold leftR
    rw [List.foldl_cons, lf1_zero]
    exact leftR_zero r
theorem leftR_le : ∀ (l : List Int) (n : Nat), leftR n l ≤ n
  | [], _ => Nat.le_refl _
  | s :: r, n => by
    unfold leftR
    rw [List.foldl_cons]
    have h1 := leftR_le r (lf1 n s)
    have h2 : lf1 n s ≤ n := by unfold lf1; split <;> (try split) <;> omega
    unfold leftR at h1
    omega
/-- The layer of a merge of which k entries are laid. -/
def lyV16 (lo hi : List Ent) (b : Bool) (k : Nat) : Int × List Ent := if k = hi.length then twV lo hi b else (16, [])
theorem lyV_ready (lo hi : List Ent) (b : Bool) : lyV16 lo hi b hi.length = twV lo hi b := if_pos rfl
theorem lyV_not {lo hi : List Ent} {b : Bool} {k : Nat} (h : k ≠ hi.length) : lyV16 lo hi b k = (16, []) := if_neg h
end Go.Proofs.YtlnjbadbpddlmaaDoor

namespace Go.Proofs.YtlnjbadbpddlmaaDoor
open Go.RowKit

/-- But for the blocks of F all that was there is as it was. -/
structure Fr (F : Nat → Prop) (w w' : World) : Prop where
  os : w'.os = w.os
  tape : w'.tape = w.tape
  output : w'.output = w.output
  size : w.heap.size ≤ w'.heap.size
  block : ∀ k, k < w.heap.size → ¬ F k → w'.heap[k]? = w.heap[k]?
theorem Fr.refl (F : Nat → Prop) (w : World) : Fr F w w := ⟨rfl, rfl, rfl, Nat.le_refl _, fun _ _ _ => rfl⟩
theorem Fr.trans {F F1 : Nat → Prop} {w w1 w2 : World} (h : Fr F w w1) (k : Fr F1 w1 w2) (hF : ∀ j, F1 j → F j ∨ w.heap.size ≤ j) : Fr F w w2 :=
  ⟨k.os.trans h.os, k.tape.trans h.tape, k.output.trans h.output, Nat.le_trans h.size k.size, fun i hi hn => (k.block i (Nat.lt_of_lt_of_le hi h.size) fun h1 => by
    rcases hF i h1 with h2 | h2
    · exact hn h2
    · omega).trans (h.block i hi hn)⟩
theorem Fr.of_below {F : Nat → Prop} {w w' : World} (h : Below w.heap.size w w') : Fr F w w' := ⟨h.os, h.tape, h.output, h.size, fun k hk _ => h.block k hk⟩
theorem Fr.below {F : Nat → Prop} {w w' : World} {B : Nat} (h : Fr F w w') (hB : B ≤ w.heap.size) (hF : ∀ k, F k → B ≤ k) : Below B w w' :=
  ⟨h.os, h.tape, h.output, h.size, fun k hk => h.block k (by omega) fun e => by have := hF k e; omega⟩
theorem Fr.of_grown {F : Nat → Prop} {w w' : World} {row : Option Nat} (h : w.grownBy w' row) (hr : ∀ k, row = some k → F k) : Fr F w w' := ⟨h.os, h.tape, h.output, h.size, fun k hk hn => h.block k hk fun e => hn (hr k e.symm)⟩
theorem Fr.drew {F : Nat → Prop} {w w' : World} (h : Fr F w w') : Fr F w w'.drew := ⟨h.os, h.tape, h.output, h.size, h.block⟩
theorem Fr.alloc {F : Nat → Prop} {w w' : World} (h : Fr F w w') (o : Obj) : Fr F w (w'.alloc o) :=
  ⟨h.os, h.tape, h.output, by have := h.size; simp; omega, fun k hk hn => (Below.heap_alloc _ _ _ (Nat.lt_of_lt_of_le hk h.size)).trans (h.block k hk hn)⟩
theorem Fr.setCell {F : Nat → Prop} {w w' : World} (h : Fr F w w') {p : Addr} (hp : F p.block ∨ w.heap.size ≤ p.block) (v : Value) : Fr F w (w'.setCell p v) :=
  ⟨h.os, h.tape, h.output, by simpa [World.setCell] using h.size, fun k hk hn => (Below.heap_setCell _ _ _ _ (fun e => by
    subst e
    rcases hp with hp | hp
    · exact hn hp
    · omega)).trans (h.block k hk hn)⟩
theorem Fr.mono {F G : Nat → Prop} {w w' : World} (h : Fr F w w') (hF : ∀ k, F k → G k ∨ w.heap.size ≤ k) : Fr G w w' := ⟨h.os, h.tape, h.output, h.size, fun k hk hn => h.block k hk fun e => by
  rcases hF k e with h1 | h1
  · exact hn h1
  · omega⟩
end Go.Proofs.YtlnjbadbpddlmaaDoor

namespace Go.Proofs.YtlnjbadbpddlmaaDoor
open Go.RowKit

structure Step16 (M : World → Nat → (Nat → Prop) → List Ent → List Ent → Bool → Nat → Prop) : Prop where
  lt : ∀ {w b F lo hi bt k}, M w b F lo hi bt k → ∀ j, F j → j < w.heap.size
  keep : ∀ {w w' b F lo hi bt k}, M w b F lo hi bt k → (∀ j, F j → w'.heap[j]? = w.heap[j]?) → M w' b F lo hi bt k
  ok : ∀ {w b F lo hi bt k}, M w b F lo hi bt k → k ≤ hi.length ∧ RightL lo ∧ RightL hi
  begin : ∀ lo a ca hi c cc (bt : Bool) w, EtLaid w → Ents w a ca lo → Ents w c cc hi → Sm lo → Sm hi → Calls Tryd.prog 9 #[.slice a lo.length ca, .slice c hi.length cc, .bool bt] w fun e w' => Below w.heap.size w w' ∧
    ((¬ (RightL lo ∧ RightL hi) ∧ ∃ er, e = .returned (.tuple #[.pointer none, er]) ∧ Er w' 16 er) ∨ ((RightL lo ∧ RightL hi) ∧ ∃ b F, e = .returned (.tuple #[.pointer (some ⟨b, 0, none⟩), .nilIface]) ∧ M w' b F lo hi bt 0 ∧ ∀ j, F j → w.heap.size ≤ j))
  step : ∀ b F lo hi bt k (n : Int) w, EtLaid w → M w b F lo hi bt k → (-9223372036854775808 ≤ n ∧ n ≤ 9223372036854775807) → Calls Tryd.prog 13 #[.pointer (some ⟨b, 0, none⟩), .int .i64 n] w fun e w' => ∃ F' er, e = .returned (.tuple #[.int .i64 ((stL hi.length k n : Nat) : Int), er]) ∧ Er w' (if 1 ≤ n then 0 else 1) er ∧ M w' b F' lo hi bt (k + stL hi.length k n) ∧ (∀ j, F' j → F j ∨ w.heap.size ≤ j) ∧ Fr F w w'
  left : ∀ b F lo hi bt k w, EtLaid w → M w b F lo hi bt k → Calls Tryd.prog 12 #[.pointer (some ⟨b, 0, none⟩)] w fun e w' => e = .returned (.int .i64 ((hi.length - k : Nat) : Int)) ∧ Below w.heap.size w w'
  ready : ∀ b F lo hi bt k w, EtLaid w → M w b F lo hi bt k → Calls Tryd.prog 15 #[.pointer (some ⟨b, 0, none⟩)] w fun e w' => e = .returned (.bool (decide (k = hi.length))) ∧ Below w.heap.size w w'
  layer : ∀ b F lo hi bt k w, EtLaid w → M w b F lo hi bt k → Calls Tryd.prog 16 #[.pointer (some ⟨b, 0, none⟩)] w fun e w' => ∃ a' c' er, e = .returned (.tuple #[.slice a' (lyV16 lo hi bt k).2.length c', er]) ∧ Ents w' a' c' (lyV16 lo hi bt k).2 ∧ Er w' (lyV16 lo hi bt k).1 er ∧ Below w.heap.size w w'
  stepNil : ∀ (n : Int) w, EtLaid w → Calls Tryd.prog 13 #[.pointer none, .int .i64 n] w fun e w' => ∃ er, e = .returned (.tuple #[.int .i64 0, er]) ∧ Er w' 1 er ∧ Below w.heap.size w w'
  leftNil : ∀ w, EtLaid w → Calls Tryd.prog 12 #[.pointer none] w fun e w' => e = .returned (.int .i64 0) ∧ Below w.heap.size w w'
  readyNil : ∀ w, EtLaid w → Calls Tryd.prog 15 #[.pointer none] w fun e w' => e = .returned (.bool false) ∧ Below w.heap.size w w'
  layerNil : ∀ w, EtLaid w → Calls Tryd.prog 16 #[.pointer none] w fun e w' => ∃ a' c' er, e = .returned (.tuple #[.slice a' 0 c', er]) ∧ Er w' 1 er ∧ Below w.heap.size w w'
/-- A session goes on where what is written is new. -/
theorem St.fr {W w w' : World} {F : Nat → Prop} (h : St W w) (k : Fr F w w') (hF : ∀ j, F j → W.heap.size ≤ j) (hW : EtLaid W) : St W w' := by
  have hb := h.below.trans (k.below (B := W.heap.size) h.below.size hF)
  exact ⟨hb, hW.below hW.lt hb⟩
/-- A merge that was begun behind W. -/
structure Mg (M : World → Nat → (Nat → Prop) → List Ent → List Ent → Bool → Nat → Prop) (W w : World) (b : Nat) (F : Nat → Prop) (lo hi : List Ent) (bt : Bool) (k : Nat) : Prop where
  at_ : M w b F lo hi bt k
  new : ∀ j, F j → W.heap.size ≤ j
section
variable {M : World → Nat → (Nat → Prop) → List Ent → List Ent → Bool → Nat → Prop} {W w w' : World} {b : Nat} {F : Nat → Prop} {lo hi : List Ent} {bt : Bool} {k : Nat}
theorem Mg.next (h : Mg M W w b F lo hi bt k) (L : Step16 M) (hb : Below w.heap.size w w') : Mg M W w' b F lo hi bt k := ⟨L.keep h.at_ fun j hj => hb.block j (L.lt h.at_ j hj), h.new⟩
/-- What another call writes leaves this merge as it was. -/
theorem Mg.other (h : Mg M W w b F lo hi bt k) (L : Step16 M) {G : Nat → Prop} (hf : Fr G w w') (hd : ∀ j, F j → ¬ G j) : Mg M W w' b F lo hi bt k := ⟨L.keep h.at_ fun j hj => hf.block j (L.lt h.at_ j hj) (hd j hj), h.new⟩
theorem beginMg (L : Step16 M) (lo hi : List Ent) (a c : Option Addr) (ca cc : Nat) (bt : Bool) (hs : St W w) (h1 : Ents w a ca lo) (h2 : Ents w c cc hi) (r1 : RightL lo) (r2 : RightL hi) :
    Calls Tryd.prog 9 #[.slice a lo.length ca, .slice c hi.length cc, .bool bt] w fun e w' => ∃ b F, e = .returned (.tuple #[.pointer (some ⟨b, 0, none⟩), .nilIface]) ∧ Mg M W w' b F lo hi bt 0 ∧ (∀ j, F j → w.heap.size ≤ j) ∧ Below w.heap.size w w' := by
  refine (L.begin lo a ca hi c cc bt w hs.et h1 h2 (sm_right r1) (sm_right r2)).mono ?_
  rintro e w' ⟨hb, ⟨h, _⟩ | ⟨_, b, F, rfl, hm, hF⟩⟩
  · exact absurd ⟨r1, r2⟩ h
  · exact ⟨b, F, rfl, ⟨hm, fun j hj => Nat.le_trans hs.below.size (hF j hj)⟩, hF, hb⟩
theorem beginBad (L : Step16 M) (lo hi : List Ent) (a c : Option Addr) (ca cc : Nat) (bt : Bool) (hs : St W w) (h1 : Ents w a ca lo) (h2 : Ents w c cc hi) (s1 : Sm lo) (s2 : Sm hi) (r : ¬ (RightL lo ∧ RightL hi)) :
    Calls Tryd.prog 9 #[.slice a lo.length ca, .slice c hi.length cc, .bool bt] w fun e w' => ∃ er, e = .returned (.tuple #[.pointer none, er]) ∧ Er w' 16 er ∧ Below w.heap.size w w' := by
  refine (L.begin lo a ca hi c cc bt w hs.et h1 h2 s1 s2).mono ?_
  rintro e w' ⟨hb, ⟨_, er, rfl, he⟩ | ⟨h, _⟩⟩
  · exact ⟨er, rfl, he, hb⟩
  · exact absurd h r
/-- A step of n entries, of a merge of which k are laid: x of them are laid. -/
theorem stepMg (L : Step16 M) (n : Int) (x : Nat) (hW : EtLaid W) (hs : St W w) (h : Mg M W w b F lo hi bt k) (h1 : 1 ≤ n ∧ n ≤ 9223372036854775807) (hx : min n.toNat (hi.length - k) = x) :
    Calls Tryd.prog 13 #[.pointer (some ⟨b, 0, none⟩), .int .i64 n] w fun e w' => ∃ F', e = .returned (.tuple #[.int .i64 ((x : Nat) : Int), .nilIface]) ∧ Mg M W w' b F' lo hi bt (k + x) ∧ St W w' ∧ (∀ j, F' j → F j ∨ w.heap.size ≤ j) ∧ Fr F w w' := by
  refine (L.step b F lo hi bt k n w hs.et h.at_ ⟨by omega, h1.2⟩).mono ?_
  rintro e w' ⟨F', er, rfl, he, hm, hF, hf⟩
  have hst : stL hi.length k n = x := by unfold stL; rw [if_pos h1.1, hx]
  rw [hst] at hm ⊢
  rw [if_pos h1.1] at he
  obtain rfl : er = .nilIface := by
    rcases he with ⟨_, h9⟩ | ⟨h9, _⟩
    · exact h9
    · exact absurd rfl h9
  refine ⟨F', rfl, ⟨hm, fun j hj => ?_⟩, hs.fr hf h.new hW, hF, hf⟩
  rcases hF j hj with h9 | h9
  · exact h.new j h9
  · exact Nat.le_trans hs.below.size h9
/-- A step of any number. -/
theorem stepAny (L : Step16 M) (n : Int) (hW : EtLaid W) (hs : St W w) (h : Mg M W w b F lo hi bt k) (h1 : -9223372036854775808 ≤ n ∧ n ≤ 9223372036854775807) :
    Calls Tryd.prog 13 #[.pointer (some ⟨b, 0, none⟩), .int .i64 n] w fun e w' => ∃ F' er, e = .returned (.tuple #[.int .i64 ((stL hi.length k n : Nat) : Int), er]) ∧ Er w' (if 1 ≤ n then 0 else 1) er ∧ Mg M W w' b F' lo hi bt (k + stL hi.length k n) ∧ St W w' := by
  refine (L.step b F lo hi bt k n w hs.et h.at_ h1).mono ?_
  rintro e w' ⟨F', er, rfl, he, hm, hF, hf⟩
  refine ⟨F', er, rfl, he, ⟨hm, fun j hj => ?_⟩, hs.fr hf h.new hW⟩
  rcases hF j hj with h9 | h9
  · exact h.new j h9
  · exact Nat.le_trans hs.below.size h9
end
end Go.Proofs.YtlnjbadbpddlmaaDoor

namespace Go.Proofs.YtlnjbadbpddlmaaDoor
open Go.RowKit

theorem cell_of16 {w : World} {b : Nat} {cs : Array Value} {t : TypeId} (h : w.heap[b]? = some (.cells cs t (0, 0))) {j : Nat} {v : Value} (hj : cs[j]? = some v) : w.cell? ⟨b, j, none⟩ = some v ∧ w.frozen? ⟨b, j, none⟩ = false := by
  simp [World.cell?, World.frozen?, h, hj]
theorem set_of16 {w : World} {b : Nat} {cs : Array Value} {t : TypeId} (h : w.heap[b]? = some (.cells cs t (0, 0))) (j : Nat) (v : Value) : (w.setCell ⟨b, j, none⟩ v).heap[b]? = some (.cells (cs.setIfInBounds j v) t (0, 0)) := by
  simp [World.setCell, Array.getElem?_modify, h]
theorem blk_lt16 {w : World} {b : Nat} {o : Obj} (h : w.heap[b]? = some o) : b < w.heap.size := (Array.getElem?_eq_some_iff.1 h).1
/-- The block of a row that isn't empty. -/
def RowB (a : Option Addr) (l : List Ent) (j : Nat) : Prop := l ≠ [] ∧ ∃ q, a = some q ∧ q.block = j
theorem rowB_lt {w : World} {a : Option Addr} {cap : Nat} {l : List Ent} (h : Ents w a cap l) {j : Nat} (hj : RowB a l j) : j < w.heap.size := by
  obtain ⟨hn, q, rfl, rfl⟩ := hj
  rcases h.2 with h0 | ⟨b, off, h1, hlt, _⟩
  · exact absurd h0 hn
  · cases h1
    exact hlt
/-- A row stays while its block does. -/
theorem ents_keep16 {w w' : World} {a : Option Addr} {cap : Nat} {l : List Ent} (h : Ents w a cap l) (hb : ∀ j, RowB a l j → w'.heap[j]? = w.heap[j]?) : Ents w' a cap l := by
  obtain ⟨h1, h0 | ⟨b, off, rfl, hlt, hc⟩⟩ := h
  · exact ⟨h1, .inl h0⟩
  · by_cases hn : l = []
    · exact ⟨h1, .inl hn⟩
    · have hq := hb b ⟨hn, _, rfl, rfl⟩
      obtain ⟨o, ho⟩ : ∃ o, w.heap[b]? = some o := ⟨_, Array.getElem?_eq_getElem hlt⟩
      refine ⟨h1, .inr ⟨b, off, rfl, blk_lt16 (hq.trans ho), fun j x hx i v hv => ?_⟩⟩
      have := hc j x hx i v hv
      simp only [World.cell?] at this ⊢
      rw [hq]
      exact this
/-- What a new row's block is. -/
theorem rowB_own {w : World} {B : Nat} {v : Value} {l : List Ent} (h : OwnE w B v l) : ∃ a cap, v = .slice a l.length cap ∧ Ents w a cap l ∧ ∀ j, RowB a l j → B ≤ j := by
  obtain ⟨a, cap, rfl, he⟩ := ents_of_own h
  refine ⟨a, cap, rfl, he, fun j hj => ?_⟩
  obtain ⟨hn, q, rfl, rfl⟩ := hj
  rcases he.2 with h0 | ⟨b, off, h1, hlt, _⟩
  · exact absurd h0 hn
  · cases h1
    exact (ownE_blk h b rfl).1
/-- The tail of a row. -/
theorem ents_tail16 {w : World} {a : Option Addr} {cap : Nat} {e : Ent} {r : List Ent} (h : Ents w a cap (e :: r)) : ∃ b off, a = some ⟨b, off, none⟩ ∧ b < w.heap.size ∧ EnCells w b off e ∧ r.length + 1 ≤ cap ∧ Ents w (some ⟨b, off + 3, none⟩) (cap - 1) r := by
  obtain ⟨h1, h0 | ⟨b, off, rfl, hlt, hc⟩⟩ := h
  · cases h0
  · rw [List.length_cons] at h1
    refine ⟨b, off, rfl, hlt, ?_, h1, by omega, .inr ⟨b, off + 3, rfl, hlt, fun j x hx => ?_⟩⟩
    · have := enCells_of (hc 0 e rfl)
      rwa [Nat.zero_mul, Nat.add_zero] at this
    · have := hc (j + 1) x (by rw [List.getElem?_cons_succ]; exact hx)
      rwa [show off + (j + 1) * 3 = off + 3 + j * 3 by omega] at this
/-- A merge in memory: its struct in block b, the row that came, the row that is left. -/
structure Mem16 (w : World) (b : Nat) (a : Option Addr) (ca : Nat) (L : List Ent) (c : Option Addr) (cc : Nat) (R : List Ent) (bt : Bool) : Prop where
  blk : w.heap[b]? = some (.cells #[.slice a L.length ca, .slice c R.length cc, .bool bt] 49 (0, 0))
  came : Ents w a ca L
  left : Ents w c cc R
  na : ¬ RowB a L b
  nc : ¬ RowB c R b
theorem Mem16.keep {w w' : World} {b : Nat} {a c : Option Addr} {ca cc : Nat} {L R : List Ent} {bt : Bool} (h : Mem16 w b a ca L c cc R bt) (hb : w'.heap[b]? = w.heap[b]?) (h1 : ∀ j, RowB a L j → w'.heap[j]? = w.heap[j]?) (h2 : ∀ j, RowB c R j → w'.heap[j]? = w.heap[j]?) : Mem16 w' b a ca L c cc R bt :=
  ⟨hb.trans h.blk, ents_keep16 h.came h1, ents_keep16 h.left h2, h.na, h.nc⟩
theorem Mem16.below {w w' : World} {b : Nat} {a c : Option Addr} {ca cc : Nat} {L R : List Ent} {bt : Bool} (h : Mem16 w b a ca L c cc R bt) (hb : Below w.heap.size w w') : Mem16 w' b a ca L c cc R bt :=
  h.keep (hb.block b (blk_lt16 h.blk)) (fun j hj => hb.block j (rowB_lt h.came hj)) (fun j hj => hb.block j (rowB_lt h.left hj))
theorem Mem16.c0 {w : World} {b : Nat} {a c : Option Addr} {ca cc : Nat} {L R : List Ent} {bt : Bool} (h : Mem16 w b a ca L c cc R bt) : w.cell? ⟨b, 0, none⟩ = some (.slice a L.length ca) := (cell_of16 h.blk rfl).1
theorem Mem16.c1 {w : World} {b : Nat} {a c : Option Addr} {ca cc : Nat} {L R : List Ent} {bt : Bool} (h : Mem16 w b a ca L c cc R bt) : w.cell? ⟨b, 1, none⟩ = some (.slice c R.length cc) := (cell_of16 h.blk rfl).1
theorem Mem16.c2 {w : World} {b : Nat} {a c : Option Addr} {ca cc : Nat} {L R : List Ent} {bt : Bool} (h : Mem16 w b a ca L c cc R bt) : w.cell? ⟨b, 2, none⟩ = some (.bool bt) := (cell_of16 h.blk rfl).1
theorem Mem16.f0 {w : World} {b : Nat} {a c : Option Addr} {ca cc : Nat} {L R : List Ent} {bt : Bool} (h : Mem16 w b a ca L c cc R bt) : w.frozen? ⟨b, 0, none⟩ = false := (cell_of16 h.blk (j := 0) rfl).2
theorem Mem16.f1 {w : World} {b : Nat} {a c : Option Addr} {ca cc : Nat} {L R : List Ent} {bt : Bool} (h : Mem16 w b a ca L c cc R bt) : w.frozen? ⟨b, 1, none⟩ = false := (cell_of16 h.blk (j := 1) rfl).2
theorem other16 {w : World} {b j k : Nat} (v : Value) (h : j ≠ b) : (w.setCell ⟨b, k, none⟩ v).heap[j]? = w.heap[j]? := Below.heap_setCell _ _ _ _ h
/-- The row that came is another one. -/
theorem Mem16.put0 {w : World} {b : Nat} {a c a' : Option Addr} {ca cc ca' : Nat} {L R L' : List Ent} {bt : Bool} (h : Mem16 w b a ca L c cc R bt) (he : Ents w a' ca' L') (hn : ¬ RowB a' L' b) : Mem16 (w.setCell ⟨b, 0, none⟩ (.slice a' L'.length ca')) b a' ca' L' c cc R bt :=
  ⟨set_of16 h.blk 0 _, ents_keep16 he fun _ hj => other16 _ fun e => hn (e ▸ hj), ents_keep16 h.left fun _ hj => other16 _ fun e => h.nc (e ▸ hj), hn, h.nc⟩
/-- The row that is left is another one. -/
theorem Mem16.put1 {w : World} {b : Nat} {a c c' : Option Addr} {ca cc cc' : Nat} {L R R' : List Ent} {bt : Bool} (h : Mem16 w b a ca L c cc R bt) (he : Ents w c' cc' R') (hn : ¬ RowB c' R' b) : Mem16 (w.setCell ⟨b, 1, none⟩ (.slice c' R'.length cc')) b a ca L c' cc' R' bt :=
  ⟨set_of16 h.blk 1 _, ents_keep16 h.came fun _ hj => other16 _ fun e => h.na (e ▸ hj), ents_keep16 he fun _ hj => other16 _ fun e => hn (e ▸ hj), h.na, hn⟩
/-- A merge of two layers of which k entries are laid, the blocks F its own. -/
def M16 (w : World) (b : Nat) (F : Nat → Prop) (lo hi : List Ent) (bt : Bool) (k : Nat) : Prop :=
  ∃ a ca c cc, Mem16 w b a ca (mrg lo (hi.take k)) c cc (hi.drop k) bt ∧ (∀ j, F j ↔ j = b ∨ RowB a (mrg lo (hi.take k)) j ∨ RowB c (hi.drop k) j) ∧ k ≤ hi.length ∧ RightL lo ∧ RightL hi
theorem m16_lt {w : World} {b : Nat} {F : Nat → Prop} {lo hi : List Ent} {bt : Bool} {k : Nat} (h : M16 w b F lo hi bt k) : ∀ j, F j → j < w.heap.size := by
  obtain ⟨a, ca, c, cc, hm, hF, _⟩ := h
  intro j hj
  rcases (hF j).1 hj with rfl | hj | hj
  · exact blk_lt16 hm.blk
  · exact rowB_lt hm.came hj
  · exact rowB_lt hm.left hj
theorem m16_keep {w w' : World} {b : Nat} {F : Nat → Prop} {lo hi : List Ent} {bt : Bool} {k : Nat} (h : M16 w b F lo hi bt k) (hb : ∀ j, F j → w'.heap[j]? = w.heap[j]?) : M16 w' b F lo hi bt k := by
  obtain ⟨a, ca, c, cc, hm, hF, h⟩ := h
  exact ⟨a, ca, c, cc, hm.keep (hb _ ((hF _).2 (.inl rfl))) (fun j hj => hb j ((hF j).2 (.inr (.inl hj)))) (fun j hj => hb j ((hF j).2 (.inr (.inr hj)))), hF, h⟩
theorem m16_ok {w : World} {b : Nat} {F : Nat → Prop} {lo hi : List Ent} {bt : Bool} {k : Nat} (h : M16 w b F lo hi bt k) : k ≤ hi.length ∧ RightL lo ∧ RightL hi := by
  obtain ⟨_, _, _, _, _, _, h⟩ := h
  exact h
end Go.Proofs.YtlnjbadbpddlmaaDoor

namespace Go.Proofs.YtlnjbadbpddlmaaDoor
open Go.RowKit

theorem leftN16 (w : World) : Calls Tryd.prog 12 #[.pointer none] w fun e w' => e = .returned (.int .i64 0) ∧ Below w.heap.size w w' := by
  go_enter Tryd.func12, Tryd.ntmps12
  go_wp2
  go_ret
  exact ⟨rfl, Below.refl _ _⟩
theorem readyN16 (w : World) : Calls Tryd.prog 15 #[.pointer none] w fun e w' => e = .returned (.bool false) ∧ Below w.heap.size w w' := by
  go_enter Tryd.func15, Tryd.ntmps15
  go_wp2
  go_ret
  exact ⟨rfl, Below.refl _ _⟩
theorem layerN16 (w : World) : Calls Tryd.prog 16 #[.pointer none] w fun e w' => ∃ a' c' er, e = .returned (.tuple #[.slice a' 0 c', er]) ∧ Er w' 1 er ∧ Below w.heap.size w w' := by
  go_enter Tryd.func16, Tryd.ntmps16
  go_wp2
  go_ret2
  exact ⟨none, 0, .iface 46 (.int .i64 1), rfl, er_no11 _ _ (by decide), Below.refl _ _⟩
theorem stepN16 (n : Int) (w : World) : Calls Tryd.prog 13 #[.pointer none, .int .i64 n] w fun e w' => ∃ er, e = .returned (.tuple #[.int .i64 0, er]) ∧ Er w' 1 er ∧ Below w.heap.size w w' := by
  go_enter Tryd.func13, Tryd.ntmps13
  go_wp2
  go_ret2
  exact ⟨.iface 46 (.int .i64 1), rfl, er_no11 _ _ (by decide), Below.refl _ _⟩
theorem results_cell16 {fn : Func} {p : Tmp} {ty : TypeId} (h : fn.results = #[.cell p ty]) (tmps : Array Value) (P : Program) (w : World) :
    (results fn tmps).run P w = ((asAddr (tmps.getD p undef)).run P w).andThen fun a w₁ => (loadVar ty a).run P w₁ := by
  simp only [results, h]
  simp [Sem.run_bind, Result.andThen]
section
variable {w : World} {b : Nat} {a c : Option Addr} {ca cc : Nat} {L R : List Ent} {bt : Bool}
theorem left16 (h : Mem16 w b a ca L c cc R bt) : Calls Tryd.prog 12 #[.pointer (some ⟨b, 0, none⟩)] w fun e w' => e = .returned (.int .i64 (R.length : Int)) ∧ Below w.heap.size w w' := by
  have c1 := h.c1
  clear h
  go_enter Tryd.func12, Tryd.ntmps12
  go_wp2
  go_ret
  exact ⟨rfl, Below.refl _ _⟩
theorem ready16 (h : Mem16 w b a ca L c cc R bt) : Calls Tryd.prog 15 #[.pointer (some ⟨b, 0, none⟩)] w fun e w' => e = .returned (.bool (decide (R.length = 0))) ∧ Below w.heap.size w w' := by
  have c1 := h.c1
  obtain ⟨B, hB⟩ : ∃ B, decide (R.length = 0) = B := ⟨_, rfl⟩
  have hq : ((R.length : Int) == 0) = B := by
    rw [← hB]
    by_cases h0 : R.length = 0
    · rw [decide_eq_true h0, beq_iff_eq]
      omega
    · rw [decide_eq_false h0, beq_eq_false_iff_ne]
      omega
  obtain ⟨n, hn⟩ : ∃ n, R.length = n := ⟨_, rfl⟩
  rw [hn] at hq c1
  rw [hB]
  clear h hB hn
  go_enter Tryd.func15, Tryd.ntmps15
  go_wp2
  go_ret
  exact ⟨rfl, Below.refl _ _⟩
set_option maxRecDepth 10000 in
set_option maxHeartbeats 1000000 in
theorem next16 {e : Ent} {r : List Ent} (h : Mem16 w b a ca L c cc (e :: r) bt) : Calls Tryd.prog 25 #[.pointer (some ⟨b, 0, none⟩)] w fun v w' => v = .returned (enV e) ∧ ∃ c' cc', Mem16 w' b a ca L c' cc' r bt ∧ (∀ j, RowB c' r j → RowB c (e :: r) j) ∧ Fr (fun j => j = b) w w' := by
  obtain ⟨q, off, rfl, hq, hx, hcap, ht⟩ := ents_tail16 h.left
  obtain ⟨V, hV⟩ : ∃ V, w.alloc (.cells #[.string ⟨#[]⟩, .int .i64 0, .string ⟨#[]⟩] 45) = V := ⟨_, rfl⟩
  obtain ⟨O, hO⟩ : ∃ O, w.heap.size = O := ⟨_, rfl⟩
  have hb1 : Below w.heap.size w V := by rw [← hV]; exact (Below.refl _ _).alloc (Nat.le_refl _) _
  have HR := Lib.hid (show EnAt V O ⟨#[]⟩ 0 ⟨#[]⟩ by rw [← hV, ← hO]; exact enAt_new _ _ _ _)
  obtain ⟨U, hU⟩ : ∃ U, V.alloc (.cells #[.string e.1, .int .i64 e.2.1, .string e.2.2] 45) = U := ⟨_, rfl⟩
  obtain ⟨P, hP⟩ : ∃ P, V.heap.size = P := ⟨_, rfl⟩
  have hb2 : Below V.heap.size V U := by rw [← hU]; exact (Below.refl _ _).alloc (Nat.le_refl _) _
  have HE := Lib.hid (show EnAt U P e.1 e.2.1 e.2.2 by rw [← hU, ← hP]; exact enAt_new _ _ _ _)
  have HB1 := Lib.hid hb1
  have HB2 := Lib.hid (hb1.trans (hb2.mono hb1.size))
  have HM := Lib.hid h
  have HMV := Lib.hid (h.below hb1)
  have HMU := Lib.hid (h.below HB2.out)
  have HRU := Lib.hid (HR.out.below hb2)
  have c1 : V.cell? ⟨b, 1, none⟩ = some (.slice (some ⟨q, off, none⟩) (r.length + 1) cc) := HMV.out.c1
  have u1 : U.cell? ⟨b, 1, none⟩ = some (.slice (some ⟨q, off, none⟩) (r.length + 1) cc) := HMU.out.c1
  have v1 := HMU.out.f1
  have x0 := (hb1.cell (p := ⟨q, off, none⟩) hq).trans hx.c0
  have x1 := (hb1.cell (p := ⟨q, off + 1, none⟩) hq).trans hx.c1
  have x2 := (hb1.cell (p := ⟨q, off + 2, none⟩) hq).trans hx.c2
  have hbP : b ≠ P := by rw [← hP]; have := blk_lt16 HMV.out.blk; omega
  have hbO : b ≠ O := by rw [← hO]; have := blk_lt16 HM.out.blk; omega
  have hat : ∀ v, EnAt (U.setCell ⟨b, 1, none⟩ v) P e.1 e.2.1 e.2.2 ∧ EnAt (U.setCell ⟨b, 1, none⟩ v) O ⟨#[]⟩ 0 ⟨#[]⟩ := fun v => ⟨HE.out.of (other16 _ hbP.symm), HRU.out.of (other16 _ hbO.symm)⟩
  have y0 := fun v => (hat v).1.c0
  have y1 := fun v => (hat v).1.c1
  have y2 := fun v => (hat v).1.c2
  have r0 := fun v => (hat v).2.c0
  have r1 := fun v => (hat v).2.c1
  have r2 := fun v => (hat v).2.c2
  have f0 := fun v => (hat v).2.f0
  have f1 := fun v => (hat v).2.f1
  have f2 := fun v => (hat v).2.f2
  have HAT := Lib.hid hat
  have HT := Lib.hid ht
  have HOW := Lib.hid (show w.heap.size ≤ O by omega)
  have HEND : Hid (∀ (c' : Option Addr) (cc' : Nat), Ents w c' cc' r → (∀ j, RowB c' r j → RowB (some ⟨q, off, none⟩) (e :: r) j) → ∀ X, X = enSet (U.setCell ⟨b, 1, none⟩ (.slice c' r.length cc')) O e.1 e.2.1 e.2.2 → ∃ c' cc', Mem16 X b a ca L c' cc' r bt ∧ (∀ j, RowB c' r j → RowB (some ⟨q, off, none⟩) (e :: r) j) ∧ Fr (fun j => j = b) w X) := fun c' cc' he hr X hX => by
    have hnb : ¬ RowB c' r b := fun h9 => HM.out.nc (hr b h9)
    have hm := HMU.out.put1 (RowN.below he HB2.out) hnb
    obtain ⟨Y, hY⟩ : ∃ Y, U.setCell ⟨b, 1, none⟩ (.slice c' r.length cc') = Y := ⟨_, rfl⟩
    rw [hY] at hX hm
    have hbx : Below w.heap.size Y X := by rw [hX]; exact below_en3 (Below.refl _ _) HOW.out _ _ _
    refine ⟨c', cc', hm.keep (hbx.block b (blk_lt16 HM.out.blk)) (fun j hj => hbx.block j (rowB_lt HM.out.came hj)) (fun j hj => hbx.block j (rowB_lt he hj)), hr, ?_⟩
    have hf : Fr (fun j => j = b) w Y := by rw [← hY]; exact Fr.setCell (F := fun j => j = b) (p := ⟨b, 1, none⟩) (Fr.of_below HB2.out) (.inl rfl) _
    exact ⟨hbx.os.trans hf.os, hbx.tape.trans hf.tape, hbx.output.trans hf.output, Nat.le_trans hf.size (by rw [hX]; simp [World.setCell]), fun j hj hn => (hbx.block j hj).trans (hf.block j hj hn)⟩
  have hlt : (0 : Int) < ((r.length + 1 : Nat) : Int) := by omega
  have hle : (1 : Int) ≤ ((r.length + 1 : Nat) : Int) := by omega
  have HCP := Lib.hid hcap
  clear h hb1 hb2 hx ht hbP hbO hat hcap
  by_cases h1 : cc = 1
  · subst h1
    have HR0 := Lib.hid (show r = [] from List.length_eq_zero_iff.1 (by have := HCP.out; omega))
    go_enter Tryd.func25, Tryd.ntmps25
    go_wp2
    have hld := lv_en ((HAT.out (.slice (some ⟨q, off, none⟩) r.length 0)).2.set e.1 e.2.1 e.2.2)
    refine bodyPost_ret (v := enV e) ?_ rfl ⟨rfl, HEND.out (some ⟨q, off, none⟩) 0 (by rw [HR0.out]; exact ents_nil _ _ _) (fun j hj => absurd HR0.out hj.1) _ rfl⟩
    rw [results_cell16 rfl]
    simp [asAddr, Result.andThen, hld]
  · go_enter Tryd.func25, Tryd.ntmps25
    go_wp2
    have hld := lv_en ((HAT.out (.slice (some ⟨q, off + 3, none⟩) r.length (cc - 1))).2.set e.1 e.2.1 e.2.2)
    refine bodyPost_ret (v := enV e) ?_ rfl ⟨rfl, HEND.out (some ⟨q, off + 3, none⟩) (cc - 1) HT.out (fun j hj => ?_) _ rfl⟩
    · rw [results_cell16 rfl]
      simp [asAddr, Result.andThen, hld]
    · obtain ⟨_, q', h8, h9⟩ := hj
      cases h8
      exact ⟨by simp, _, rfl, h9⟩
/-- What laid leaves: the row that came, in a block that was the merge's or is new; the merge with what is left. -/
def Lay16 (w w' : World) (b : Nat) (a : Option Addr) (ca : Nat) (L : List Ent) (c : Option Addr) (R L' R' : List Ent) (bt : Bool) (u : Value) : Prop :=
  ∃ a' ca' c' cc', u = .slice a' L'.length ca' ∧ Ents w' a' ca' L' ∧ (∀ j, RowB a' L' j → RowB a L j ∨ w.heap.size ≤ j) ∧ Mem16 w' b a ca L c' cc' R' bt ∧ (∀ j, RowB c' R' j → RowB c R j) ∧ Fr (fun j => j = b) w w'
set_option maxRecDepth 10000 in
set_option maxHeartbeats 2000000 in
/-- So many entries laid, one at a time. -/
theorem laid16 {lo hi : List Ent} (h1 : RightL lo) (h2 : RightL hi) {k x : Nat} (hx : k + x ≤ hi.length) (h : Mem16 w b a ca (mrg lo (hi.take k)) c cc (hi.drop k) bt) : Calls Tryd.prog 24 #[.slice a (mrg lo (hi.take k)).length ca, .int .i64 (x : Int), .func (.func 25) #[.pointer (some ⟨b, 0, none⟩)] #[]] w fun v w' => ∃ u, v = .returned u ∧ Lay16 w w' b a ca (mrg lo (hi.take k)) c (hi.drop k) (mrg lo (hi.take (k + x))) (hi.drop (k + x)) bt u := by
  obtain ⟨L, hL⟩ : ∃ L, mrg lo (hi.take k) = L := ⟨_, rfl⟩
  rw [hL] at h ⊢
  have HL := Lib.hid hL
  have H1 := Lib.hid h1
  have H2 := Lib.hid h2
  have HX := Lib.hid hx
  have HM0 := Lib.hid h
  have HXB := Lib.hid (show x ≤ 64 by have := h2.1; omega)
  clear hL h1 h2 hx h
  go_enter Tryd.func24, Tryd.ntmps24
  go_wp2
  go_loopg [0, 8] x (fun g v i wx => ∃ (j : Nat) (M : List Ent) (a' : Option Addr) (ca' : Nat) (c' : Option Addr) (cc' : Nat), v = .slice a' M.length ca' ∧ i = .int .i64 (j : Int) ∧ j + g = x ∧ Hid (M = mrg lo (hi.take (k + j))) ∧ Hid (Ents wx a' ca' M) ∧ Hid (∀ y, RowB a' M y → RowB a L y ∨ w.heap.size ≤ y) ∧ Hid (Mem16 wx b a ca L c' cc' (hi.drop (k + j)) bt) ∧ Hid (∀ y, RowB c' (hi.drop (k + j)) y → RowB c (hi.drop k) y) ∧ Hid (Fr (fun y => y = b) w wx))
  case atStart => exact ⟨0, L, a, ca, c, cc, rfl, rfl, by omega, HL.out.symm, HM0.out.came, fun y hy => .inl hy, HM0.out, fun y hy => hy, Fr.refl _ _⟩
  case round =>
    obtain ⟨j, M, a5, c5, a6, c6, rfl, rfl, hj, HM, HE, HA, HQ, HC, HF⟩ := hrel
    by_cases hlt : j < x
    · have hlt' : (j : Int) < (x : Int) := by omega
      have hwk : IntKind.i64.wrap ((j : Int) + 1) = (j : Int) + 1 := IntWalk.i64_in _ (by have := HXB.out; omega)
      have hjh : k + j < hi.length := by have := HX.out; omega
      obtain ⟨e, he⟩ : ∃ e, hi[k + j] = e := ⟨_, rfl⟩
      have hge := List.getElem?_eq_getElem hjh
      have hdr := List.drop_eq_getElem_cons hjh
      rw [he] at hge hdr
      rw [hdr] at HQ HC
      have HNX := Lib.hid (next16 HQ.out)
      have HST := Lib.hid (mrg_take15 (low := lo) hge)
      have HRX := Lib.hid (H2.out.2.1 e (List.mem_of_getElem? hge))
      obtain ⟨q1, q2, q3, q4⟩ := mrg_way15 H1.out H2.out (k + j)
      rw [← HM.out] at q1 q2 q3 q4 HST
      have HQ2 := Lib.hid q2
      have HQ3 := Lib.hid q3
      have HQ4 := Lib.hid q4
      have HNB : Hid (¬ RowB a5 M b) := fun h9 => by
        rcases HA.out b h9 with h8 | h8
        · exact HM0.out.na h8
        · have := blk_lt16 HM0.out.blk
          omega
      obtain ⟨M2, hM2⟩ : ∃ M2, mrg lo (hi.take (k + (j + 1))) = M2 := ⟨_, rfl⟩
      have HS2 := Lib.hid (show one15 M e = M2 by rw [← hM2, ← Nat.add_assoc]; exact HST.out.symm)
      have HM2 := Lib.hid hM2.symm
      clear he hge hdr q1 q2 q3 q4 hM2 HST hjh
      go_wp2_with fail
      refine (HNX.out).mono ?_
      rintro v w1 ⟨rfl, c7, cc7, hm, hc, hf⟩
      have HQ1 := Lib.hid hm
      have HC1 := Lib.hid (show ∀ y, RowB c7 (hi.drop (k + j + 1)) y → RowB c (hi.drop k) y from fun y hy => HC.out y (hc y hy))
      have HE1 := Lib.hid (ents_keep16 HE.out fun y hy => hf.block y (rowB_lt HE.out hy) fun h9 => HNB.out (h9 ▸ hy))
      have HF1 := Lib.hid (HF.out.trans hf fun y hy => .inl hy)
      clear hm hc hf HNX
      have HON := Lib.hid (one15o M a5 c5 e w1 HE1.out HQ4.out (Nat.le_trans HQ3.out (by decide)) HQ2.out HRX.out (right_size15 HRX.out))
      rw [HS2.out] at HON
      go_wp2_with fail
      refine (HON.out).mono ?_
      rintro v w2 ⟨v2, rfl, ho, hb⟩
      obtain ⟨a8, c8, rfl, he8, hr8⟩ := rowB_own ho
      have HE2 := Lib.hid he8
      have HA2 := Lib.hid (show ∀ y, RowB a8 M2 y → RowB a L y ∨ w.heap.size ≤ y from fun y hy => .inr (Nat.le_trans HF1.out.size (hr8 y hy)))
      have HQ5 := Lib.hid (HQ1.out.below hb)
      have HF2 := Lib.hid (HF1.out.trans (Fr.of_below (F := fun y => y = b) hb) fun y hy => .inl hy)
      clear ho hb he8 hr8 HON
      go_wp2
      go_roundg (x - (j + 1))
      case measure => omega
      case rel => exact ⟨j + 1, M2, a8, c8, c7, cc7, rfl, by simp, by omega, HM2.out, HE2.out, HA2.out, HQ5.out, HC1.out, HF2.out⟩
    · have hlt' : ¬ (j : Int) < (x : Int) := by omega
      obtain rfl : j = x := by omega
      have HE9 := Lib.hid HM.out
      go_wp2
      go_ret
      rw [← HE9.out]
      exact ⟨_, rfl, a5, c5, a6, c6, rfl, HE.out, HA.out, HQ.out, HC.out, HF.out⟩
end
/-- The blocks of a merge. -/
def Fm (b : Nat) (a c : Option Addr) (L R : List Ent) (j : Nat) : Prop := j = b ∨ RowB a L j ∨ RowB c R j
set_option maxRecDepth 10000 in
set_option maxHeartbeats 1000000 in
theorem step16 (b : Nat) (F : Nat → Prop) (lo hi : List Ent) (bt : Bool) (k : Nat) (n : Int) (w : World) (h : M16 w b F lo hi bt k) (hn : -9223372036854775808 ≤ n ∧ n ≤ 9223372036854775807) : Calls Tryd.prog 13 #[.pointer (some ⟨b, 0, none⟩), .int .i64 n] w fun e w' => ∃ F' er, e = .returned (.tuple #[.int .i64 ((stL hi.length k n : Nat) : Int), er]) ∧ Er w' (if 1 ≤ n then 0 else 1) er ∧ M16 w' b F' lo hi bt (k + stL hi.length k n) ∧ (∀ j, F' j → F j ∨ w.heap.size ≤ j) ∧ Fr F w w' := by
  by_cases h1 : 1 ≤ n
  · have g1 : ¬ n < 1 := by omega
    obtain ⟨a, ca, c, cc, hm, hF, hk, r1, r2⟩ := h
    obtain ⟨x, hx⟩ : ∃ x, stL hi.length k n = x := ⟨_, rfl⟩
    rw [hx, if_pos h1]
    have hxm : min n ((hi.length - k : Nat) : Int) = (x : Int) := by
      rw [← hx]
      unfold stL
      rw [if_pos h1]
      omega
    have hxn : (x : Int) = n ∧ n ≤ ((hi.length - k : Nat) : Int) ∨ (x : Int) = ((hi.length - k : Nat) : Int) ∧ ((hi.length - k : Nat) : Int) < n := by omega
    have hxk : k + x ≤ hi.length := by
      rw [← hx]
      exact stL_le hk n
    have HLD := Lib.hid (laid16 r1 r2 hxk hm)
    have HM := Lib.hid hm
    have HF := Lib.hid hF
    have HR1 := Lib.hid r1
    have HR2 := Lib.hid r2
    have HXK := Lib.hid hxk
    obtain ⟨z, hz⟩ : ∃ z, hi.length - k = z := ⟨_, rfl⟩
    obtain ⟨y, hy⟩ : ∃ y, (mrg lo (hi.take k)).length = y := ⟨_, rfl⟩
    have c0 := hm.c0
    have c1 := hm.c1
    rw [List.length_drop, hz] at c1
    rw [hy] at c0 HLD
    rw [hz] at hxm hxn
    have HY := Lib.hid hy
    clear hm hF r1 r2 hx hn h1 hxk hk hz hy
    go_enter Tryd.func13, Tryd.ntmps13
    go_wp2_with fail
    refine (HLD.out).mono ?_
    rintro v w1 ⟨u, rfl, a', ca', c', cc', rfl, he, ha, hq, hc, hf⟩
    have HQ := Lib.hid hq
    have HE := Lib.hid he
    have HA := Lib.hid ha
    have HC := Lib.hid hc
    have HFR := Lib.hid hf
    have d0 := hq.c0
    have f0 := hq.f0
    clear he ha hq hc hf HLD
    go_wp2
    go_ret2
    have hnb : ¬ RowB a' (mrg lo (hi.take (k + x))) b := fun h9 => by
      rcases HA.out b h9 with h8 | h8
      · exact HM.out.na h8
      · have := blk_lt16 HM.out.blk
        omega
    refine ⟨Fm b a' c' (mrg lo (hi.take (k + x))) (hi.drop (k + x)), .nilIface, rfl, er_nil _, ⟨a', ca', c', cc', HQ.out.put0 HE.out hnb, fun _ => Iff.rfl, HXK.out, HR1.out, HR2.out⟩, fun j hj => ?_, ?_⟩
    · rcases hj with rfl | hj | hj
      · exact .inl ((HF.out _).2 (.inl rfl))
      · exact (HA.out j hj).imp_left fun h9 => (HF.out _).2 (.inr (.inl h9))
      · exact .inl ((HF.out _).2 (.inr (.inr (HC.out j hj))))
    · exact Fr.setCell (HFR.out.mono fun j hj => .inl ((HF.out j).2 (.inl hj))) (.inl ((HF.out b).2 (.inl rfl))) _
  · have g1 : n < 1 := by omega
    have HH := Lib.hid h
    have hs : stL hi.length k n = 0 := if_neg h1
    rw [hs, if_neg h1]
    clear h hn h1 hs
    go_enter Tryd.func13, Tryd.ntmps13
    go_wp2
    go_ret2
    exact ⟨F, .iface 46 (.int .i64 1), rfl, er_no11 _ _ (by decide), HH.out, fun j hj => .inl hj, Fr.refl _ _⟩
set_option maxRecDepth 10000 in
set_option maxHeartbeats 2000000 in
theorem layer16 (b : Nat) (F : Nat → Prop) (lo hi : List Ent) (bt : Bool) (k : Nat) (w : World) (h : M16 w b F lo hi bt k) : Calls Tryd.prog 16 #[.pointer (some ⟨b, 0, none⟩)] w fun e w' => ∃ a' c' er, e = .returned (.tuple #[.slice a' (lyV16 lo hi bt k).2.length c', er]) ∧ Ents w' a' c' (lyV16 lo hi bt k).2 ∧ Er w' (lyV16 lo hi bt k).1 er ∧ Below w.heap.size w w' := by
  obtain ⟨a, ca, c, cc, hm, hF, hk, r1, r2⟩ := h
  obtain ⟨V, hV⟩ : ∃ V, lyV16 lo hi bt k = V := ⟨_, rfl⟩
  rw [hV]
  have HRD := Lib.hid (ready16 hm)
  have HM := Lib.hid hm
  rw [List.length_drop] at HRD
  by_cases hkk : k = hi.length
  · subst hkk
    have hV2 : twV lo hi bt = V := by rw [← hV, lyV_ready]
    have hmm : mrg lo (hi.take hi.length) = mrg lo hi := by rw [List.take_length]
    rw [hmm] at HM
    obtain ⟨M, hMM⟩ : ∃ M, mrg lo hi = M := ⟨_, rfl⟩
    rw [hMM] at HM
    have hml : M.length ≤ 128 := by
      have := (mrg_way15 r1 r2 hi.length).2.2.1
      rwa [hmm, hMM] at this
    have HML := Lib.hid hml
    have HFIN : Hid (∀ X, two15 lo hi bt = X → V = if 64 < X.length then (9, []) else (0, X)) := fun X hX => by
      rw [← hV2, ← hX]
      split
      · exact tw_full r1 r2 (by assumption)
      · exact tw_ok r1 r2 (by omega)
    have HTW : Hid (two15 lo hi bt = if bt then bot15 M else M) := (show two15 lo hi bt = if bt then bot15 M else M by unfold two15; rw [hMM])
    rw [show decide (hi.length - hi.length = 0) = true by simp] at HRD
    have HCL : Hid (∀ X, Below w.heap.size w X → Calls Tryd.prog 19 #[.slice a M.length ca] X fun e w' => ∃ a' c', e = .returned (.slice a' M.length c') ∧ Ents w' a' c' M ∧ Below w.heap.size w w') := fun X hX => by
      refine (clone15 M a ca X (HM.out.below hX).came (Nat.le_trans hml (by decide))).mono ?_
      rintro e w' ⟨v, rfl, ho, hb⟩
      obtain ⟨a', c', rfl, he⟩ := ents_of_own ho
      exact ⟨a', c', rfl, he, hX.trans (hb.mono hX.size)⟩
    clear hm hF r1 r2 hV hV2 hmm hMM hml
    go_enter Tryd.func16, Tryd.ntmps16
    go_wp2_with fail
    refine (HRD.out).mono ?_
    rintro e w1 ⟨rfl, hb⟩
    have HB := Lib.hid hb
    have HM1 := Lib.hid (HM.out.below hb)
    have c0 := HM1.out.c0
    clear hb
    go_wp2_with fail
    refine (HCL.out _ HB.out).mono ?_
    rintro e w2 ⟨a2, k2, rfl, he, hb⟩
    have HB2 := Lib.hid hb
    have HE2 := Lib.hid he
    have HM2 := Lib.hid (HM.out.below hb)
    have e2 := HM2.out.c2
    clear hb he c0
    cases bt with
    | false =>
      have HVV := Lib.hid (HFIN.out M (by rw [HTW.out, if_neg (by simp)]))
      by_cases h64 : 64 < M.length
      · have g64 : (64 : Int) < (M.length : Int) := by omega
        have HX := Lib.hid (show V = (9, []) by rw [HVV.out, if_pos h64])
        clear h64
        go_wp2
        go_ret2
        exact ⟨none, 0, .iface 46 (.int .i64 9), by rw [HX.out]; rfl, by rw [HX.out]; exact ents_nil _ _ _, by rw [HX.out]; exact er_no11 _ _ (by decide), HB2.out⟩
      · have g64 : ¬ (64 : Int) < (M.length : Int) := by omega
        have HX := Lib.hid (show V = (0, M) by rw [HVV.out, if_neg h64])
        clear h64
        go_wp2
        go_ret2
        exact ⟨a2, k2, .nilIface, by rw [HX.out]; rfl, by rw [HX.out]; exact HE2.out, by rw [HX.out]; exact er_nil _, HB2.out⟩
    | true =>
      have HBT := Lib.hid (botm15c M a2 k2 w2 HE2.out (Nat.le_trans HML.out (by decide)))
      obtain ⟨O, hO⟩ : ∃ O, bot15 M = O := ⟨_, rfl⟩
      rw [hO] at HBT
      have HVV := Lib.hid (HFIN.out O (by rw [HTW.out, if_pos rfl]; exact hO))
      clear hO
      go_wp2_with fail
      refine (HBT.out).mono ?_
      rintro r w6 ⟨a6, c6, rfl, he, hb⟩
      have HE6 := Lib.hid he
      have HB6 := Lib.hid (HB2.out.trans (hb.mono HB2.out.size))
      clear he hb
      by_cases h64 : 64 < O.length
      · have g64 : (64 : Int) < (O.length : Int) := by omega
        have HX := Lib.hid (show V = (9, []) by rw [HVV.out, if_pos h64])
        clear h64
        go_wp2
        go_ret2
        exact ⟨none, 0, .iface 46 (.int .i64 9), by rw [HX.out]; rfl, by rw [HX.out]; exact ents_nil _ _ _, by rw [HX.out]; exact er_no11 _ _ (by decide), HB6.out⟩
      · have g64 : ¬ (64 : Int) < (O.length : Int) := by omega
        have HX := Lib.hid (show V = (0, O) by rw [HVV.out, if_neg h64])
        clear h64
        go_wp2
        go_ret2
        exact ⟨a6, c6, .nilIface, by rw [HX.out]; rfl, by rw [HX.out]; exact HE6.out, by rw [HX.out]; exact er_nil _, HB6.out⟩
  · have HV := Lib.hid (show V = (16, []) by rw [← hV]; exact lyV_not hkk)
    rw [show decide (hi.length - k = 0) = false by rw [decide_eq_false_iff_not]; omega] at HRD
    clear hm hF r1 r2 hV hkk hk
    go_enter Tryd.func16, Tryd.ntmps16
    go_wp2_with fail
    refine (HRD.out).mono ?_
    rintro e w1 ⟨rfl, hb⟩
    have HB := Lib.hid hb
    clear hb
    go_wp2
    go_ret2
    exact ⟨none, 0, .iface 46 (.int .i64 16), by rw [HV.out]; rfl, by rw [HV.out]; exact ents_nil _ _ _, by rw [HV.out]; exact er_no11 _ _ (by decide), HB.out⟩
set_option maxRecDepth 10000 in
set_option maxHeartbeats 2000000 in
theorem begin16 (lo : List Ent) (a : Option Addr) (ca : Nat) (hi : List Ent) (c : Option Addr) (cc : Nat) (bt : Bool) (w : World) (h1 : Ents w a ca lo) (h2 : Ents w c cc hi) (s1 : Sm lo) (s2 : Sm hi) : Calls Tryd.prog 9 #[.slice a lo.length ca, .slice c hi.length cc, .bool bt] w fun e w' => Below w.heap.size w w' ∧
    ((¬ (RightL lo ∧ RightL hi) ∧ ∃ er, e = .returned (.tuple #[.pointer none, er]) ∧ Er w' 16 er) ∨ ((RightL lo ∧ RightL hi) ∧ ∃ b F, e = .returned (.tuple #[.pointer (some ⟨b, 0, none⟩), .nilIface]) ∧ M16 w' b F lo hi bt 0 ∧ ∀ j, F j → w.heap.size ≤ j)) := by
  have HR1 := Lib.hid (right9 lo a ca w h1 s1)
  have HR2 : Hid (∀ X, Below w.heap.size w X → Calls Tryd.prog 10 #[.slice c hi.length cc] X fun e w' => e = .returned (.bool (decide (RightL hi))) ∧ Below w.heap.size w w') := fun X hX => by
    refine (right9 hi c cc X (RowN.below h2 hX) s2).mono ?_
    rintro e w' ⟨rfl, hb⟩
    exact ⟨rfl, hX.trans (hb.mono hX.size)⟩
  have HCL : Hid (∀ (l : List Ent) (x : Option Addr) (y : Nat), Ents w x y l → Sm l → ∀ X, Below w.heap.size w X → Calls Tryd.prog 19 #[.slice x l.length y] X fun e w' => ∃ a' c', e = .returned (.slice a' l.length c') ∧ Ents w' a' c' l ∧ (∀ j, RowB a' l j → w.heap.size ≤ j) ∧ Below w.heap.size w w' ∧ Below X.heap.size X w') := fun l x y hl hs X hX => by
    refine (clone15 l x y X (RowN.below hl hX) hs.1).mono ?_
    rintro e w' ⟨v, rfl, ho, hb⟩
    obtain ⟨a', c', rfl, he, hr⟩ := rowB_own ho
    exact ⟨a', c', rfl, he, fun j hj => Nat.le_trans hX.size (hr j hj), hX.trans (hb.mono hX.size), hb⟩
  have HC1 := Lib.hid (HCL.out lo a ca h1 s1)
  have HC2 := Lib.hid (HCL.out hi c cc h2 s2)
  obtain ⟨b1, hb1⟩ : ∃ b1, decide (RightL lo) = b1 := ⟨_, rfl⟩
  obtain ⟨b2, hb2⟩ : ∃ b2, decide (RightL hi) = b2 := ⟨_, rfl⟩
  rw [hb1] at HR1
  rw [hb2] at HR2
  have HB1 := Lib.hid hb1
  have HB2 := Lib.hid hb2
  clear h1 h2 s1 s2 hb1 hb2 HCL
  cases b1 with
  | false =>
    go_enter Tryd.func9, Tryd.ntmps9
    go_wp2_with fail
    refine (HR1.out).mono ?_
    rintro r w1 ⟨rfl, hb⟩
    have HB := Lib.hid hb
    clear hb
    go_wp2
    go_ret2
    exact ⟨HB.out, .inl ⟨fun h9 => of_decide_eq_false HB1.out h9.1, .iface 46 (.int .i64 16), rfl, er_no11 _ _ (by decide)⟩⟩
  | true =>
    cases b2 with
    | false =>
      go_enter Tryd.func9, Tryd.ntmps9
      go_wp2_with fail
      refine (HR1.out).mono ?_
      rintro r w1 ⟨rfl, hb⟩
      have HB := Lib.hid hb
      clear hb
      go_wp2_with fail
      refine (HR2.out _ HB.out).mono ?_
      rintro r w2 ⟨rfl, hb⟩
      have HBB := Lib.hid hb
      clear hb
      go_wp2
      go_ret2
      exact ⟨HBB.out, .inl ⟨fun h9 => of_decide_eq_false HB2.out h9.2, .iface 46 (.int .i64 16), rfl, er_no11 _ _ (by decide)⟩⟩
    | true =>
      have HRL := Lib.hid (of_decide_eq_true HB1.out)
      have HRH := Lib.hid (of_decide_eq_true HB2.out)
      clear HB1 HB2
      go_enter Tryd.func9, Tryd.ntmps9
      go_wp2_with fail
      refine (HR1.out).mono ?_
      rintro r w1 ⟨rfl, hb⟩
      have HB := Lib.hid hb
      clear hb
      go_wp2_with fail
      refine (HR2.out _ HB.out).mono ?_
      rintro r w2 ⟨rfl, hb⟩
      have HBB := Lib.hid hb
      clear hb HB
      go_wp2_with fail
      refine (HC1.out _ HBB.out).mono ?_
      rintro r w3 ⟨a3, c3, rfl, he, hr, hb, _⟩
      have HB3 := Lib.hid hb
      have HE3 := Lib.hid he
      have HA3 := Lib.hid hr
      clear hb he hr HBB
      go_wp2_with fail
      refine (HC2.out _ HB3.out).mono ?_
      rintro r w4 ⟨a4, c4, rfl, he, hr, hb, hb9⟩
      have HB4 := Lib.hid hb
      have HE4 := Lib.hid he
      have HA4 := Lib.hid hr
      have HE5 := Lib.hid (RowN.below HE3.out hb9)
      clear hb he hr hb9
      obtain ⟨U, hU⟩ : ∃ U, w4.alloc (.cells #[.slice a3 lo.length c3, .slice a4 hi.length c4, .bool bt] 49) = U := ⟨_, rfl⟩
      have hbu : Below w4.heap.size w4 U := by rw [← hU]; exact (Below.refl _ _).alloc (Nat.le_refl _) _
      have hblk : U.heap[w4.heap.size]? = some (.cells #[.slice a3 lo.length c3, .slice a4 hi.length c4, .bool bt] 49 (0, 0)) := by rw [← hU]; exact heap_alloc_new _ _
      have HMEM := Lib.hid (show Mem16 U w4.heap.size a3 c3 lo a4 c4 hi bt from ⟨hblk, RowN.below HE5.out hbu, RowN.below HE4.out hbu, fun h9 => by have := rowB_lt HE5.out h9; omega, fun h9 => by have := rowB_lt HE4.out h9; omega⟩)
      have HBU := Lib.hid (HB4.out.trans (hbu.mono HB4.out.size))
      clear hbu hblk
      go_wp2
      go_ret2
      refine ⟨HBU.out, .inr ⟨⟨HRL.out, HRH.out⟩, w4.heap.size, Fm w4.heap.size a3 a4 lo hi, rfl, ⟨a3, c3, a4, c4, HMEM.out, fun _ => Iff.rfl, Nat.zero_le _, HRL.out, HRH.out⟩, fun j hj => ?_⟩⟩
      rcases hj with rfl | hj | hj
      · exact HB4.out.size
      · exact HA3.out j hj
      · exact HA4.out j hj
theorem leftC16 (b : Nat) (F : Nat → Prop) (lo hi : List Ent) (bt : Bool) (k : Nat) (w : World) (h : M16 w b F lo hi bt k) : Calls Tryd.prog 12 #[.pointer (some ⟨b, 0, none⟩)] w fun e w' => e = .returned (.int .i64 ((hi.length - k : Nat) : Int)) ∧ Below w.heap.size w w' := by
  obtain ⟨a, ca, c, cc, hm, _⟩ := h
  have := left16 hm
  rwa [List.length_drop] at this
theorem step16c : Step16 M16 where
  lt := m16_lt
  keep := m16_keep
  ok := m16_ok
  begin := fun lo a ca hi c cc bt w _ h1 h2 s1 s2 => begin16 lo a ca hi c cc bt w h1 h2 s1 s2
  step := fun b F lo hi bt k n w _ h hn => step16 b F lo hi bt k n w h hn
  left := fun b F lo hi bt k w _ h => leftC16 b F lo hi bt k w h
  ready := fun b F lo hi bt k w _ h => by
    obtain ⟨a, ca, c, cc, hm, _, hk, _⟩ := h
    have := ready16 hm
    rw [List.length_drop] at this
    rwa [show decide (hi.length - k = 0) = decide (k = hi.length) by rw [decide_eq_decide]; omega] at this
  layer := fun b F lo hi bt k w _ h => layer16 b F lo hi bt k w h
  stepNil := fun n w _ => stepN16 n w
  leftNil := fun w _ => leftN16 w
  readyNil := fun w _ => readyN16 w
  layerNil := fun w _ => layerN16 w
end Go.Proofs.YtlnjbadbpddlmaaDoor

namespace Go.Proofs.YtlnjbadbpddlmaaDoor
open Go.RowKit

abbrev ex16 : List Ent := [(⟨#[47, 97]⟩, 1, ⟨#[]⟩), (⟨#[47, 98]⟩, 1, ⟨#[]⟩)]
theorem ex16_right : RightL ex16 := by decide +kernel
set_option maxHeartbeats 4000000 in
set_option maxRecDepth 10000 in
theorem awake16 {M : World → Nat → (Nat → Prop) → List Ent → List Ent → Bool → Nat → Prop} (L : Step16 M) (w : World) (hg : EtLaid w) : Calls Tryd.prog 7 #[] w fun e w' => e = .returned (.bool true) ∧ Below w.heap.size w w' := by
  have HG := Lib.hid hg
  have HS0 := Lib.hid (st_self hg)
  clear hg
  obtain ⟨M1, hM1⟩ : ∃ M, w.heap.size = M := ⟨_, rfl⟩
  obtain ⟨V1, hV1⟩ : ∃ V, w.alloc (.cells #[.string ⟨#[47, 97]⟩, .int .i64 1, .string ⟨#[]⟩, .string ⟨#[47, 98]⟩, .int .i64 1, .string ⟨#[]⟩] 45) = V := ⟨_, rfl⟩
  have hb1 : Below w.heap.size w V1 := by rw [← hV1]; exact (Below.refl _ _).alloc (Nat.le_refl _) _
  have hq1 := ents_block (cap := 2) (heap_alloc_new w (.cells #[.string ⟨#[47, 97]⟩, .int .i64 1, .string ⟨#[]⟩, .string ⟨#[47, 98]⟩, .int .i64 1, .string ⟨#[]⟩] 45)) (show _ = ex16.flatMap enc from rfl) (by simp)
  rw [hV1, hM1] at hq1
  have HS1 := Lib.hid (HS0.out.next hb1)
  have HA := Lib.hid hq1
  have HBEG := Lib.hid (beginMg L [] ex16 none (some ⟨M1, 0, none⟩) 0 2 false HS1.out (ents_nil _ _ _) HA.out right_nil ex16_right)
  clear hb1 hq1
  go_enter Tryd.func7, Tryd.ntmps7
  go_wp2_with fail
  refine (HBEG.out).mono ?_
  rintro e w1 ⟨b, F, rfl, hm, -, hb⟩
  have HM1 := Lib.hid hm
  have HS2 := Lib.hid (HS1.out.next hb)
  clear hm hb hV1 hM1
  go_wp2_with fail
  refine (stepMg L 1 1 HG.out HS2.out HM1.out (by decide) rfl).mono ?_
  rintro e w2 ⟨F2, rfl, hm, hs, -, -⟩
  have HM2 := Lib.hid hm
  have HS3 := Lib.hid hs
  clear hm hs
  go_wp2_with fail
  refine (stepMg L 5 1 HG.out HS3.out HM2.out (by decide) rfl).mono ?_
  rintro e w3 ⟨F3, rfl, hm, hs, -, -⟩
  have HM3 := Lib.hid hm
  have HS4 := Lib.hid hs
  clear hm hs
  go_wp2_with fail
  refine (code_er 0 .nilIface _ (er_nil _) HS4.out.et).mono ?_
  rintro e w4 ⟨rfl, hb⟩
  have HM4 := Lib.hid (HM3.out.next L hb)
  have HS5 := Lib.hid (HS4.out.next hb)
  clear hb
  go_wp2_with fail
  refine (code_er 0 .nilIface _ (er_nil _) HS5.out.et).mono ?_
  rintro e w5 ⟨rfl, hb⟩
  have HM5 := Lib.hid (HM4.out.next L hb)
  have HS6 := Lib.hid (HS5.out.next hb)
  clear hb
  go_wp2_with fail
  refine (code_er 0 .nilIface _ (er_nil _) HS6.out.et).mono ?_
  rintro e w6 ⟨rfl, hb⟩
  have HM6 := Lib.hid (HM5.out.next L hb)
  have HS7 := Lib.hid (HS6.out.next hb)
  clear hb
  go_wp2_with fail
  refine (L.ready _ _ _ _ _ _ _ HS7.out.et HM6.out.at_).mono ?_
  rintro e w7 ⟨rfl, hb⟩
  have HS8 := Lib.hid (HS7.out.next hb)
  clear hb
  go_wp2
  go_ret
  exact ⟨by first | rfl | simp, HS8.out.below⟩
end Go.Proofs.YtlnjbadbpddlmaaDoor

namespace Go.Proofs.YtlnjbadbpddlmaaDoor
open Go.RowKit

theorem leftR_split (h : Nat) (l : List Int) (j : Nat) : leftR h l = leftR (leftR h (l.take j)) (l.drop j) := by
  conv => lhs; rw [← List.take_append_drop j l]
  unfold leftR
  rw [List.foldl_append]
set_option maxRecDepth 10000 in
set_option maxHeartbeats 4000000 in
theorem refLeft16 (h : Nat) (ST : List Int) (a : Option Addr) (cap : Nat) (w : World) (hh : h ≤ 1000) (hr : RowOf (Value.int .i64) w a cap ST) (hl : ST.length ≤ 1000) :
    Calls Tryd.prog 14 #[.int .i64 (h : Int), .slice a ST.length cap] w fun e w' => e = .returned (.int .i64 ((leftR h ST : Nat) : Int)) ∧ w = w' := by
  obtain ⟨R, hR⟩ : ∃ R, leftR h ST = R := ⟨_, rfl⟩
  have HR := Lib.hid hR
  have HE := Lib.hid hr
  have HL := Lib.hid hl
  have HH := Lib.hid hh
  have HCAP := Lib.hid hr.1
  rw [hR]
  clear hr hl hh hR
  go_enter Tryd.func14, Tryd.ntmps14
  go_wp2
  go_loopg [0, 5] ST.length (fun g v i wx => ∃ (k y : Nat), v = .int .i64 (y : Int) ∧ i = .int .i64 (k : Int) ∧ k + g = ST.length ∧ Hid (y = leftR h (ST.take k)) ∧ w = wx)
  case atStart => exact ⟨0, h, rfl, rfl, by omega, by simp [Hid, leftR], rfl⟩
  case round =>
    obtain ⟨k, y, rfl, rfl, hk, HY, rfl⟩ := hrel
    have hw : IntKind.i64.wrap ((k : Int) + 1) = (k : Int) + 1 := IntWalk.i64_in _ (by have := HL.out; omega)
    by_cases hlt : k < ST.length
    · have hlt' : (k : Int) < (ST.length : Int) := by omega
      obtain ⟨b, off, s, rfl, hc, htk, -⟩ := RowOf.at HE.out (Below.refl _ _) hlt
      have HT := Lib.hid (show leftR h (ST.take (k + 1)) = lf1 y s by rw [htk, leftR_snoc, ← HY.out])
      have HYH := Lib.hid (show y ≤ 1000 by rw [HY.out]; have := leftR_le (ST.take k) h; have := HH.out; omega)
      clear htk
      by_cases hge : (y : Int) ≤ s
      · have HV := Lib.hid (show R = 0 by rw [← HR.out, leftR_split h ST (k + 1), HT.out, show lf1 y s = 0 from if_pos hge, leftR_zero])
        go_wp2
        go_ret
        exact ⟨by rw [HV.out]; rfl, rfl⟩
      · by_cases hp : 0 < s
        · have hw2 : IntKind.i64.wrap ((y : Int) - s) = ((y - s.toNat : Nat) : Int) := by rw [IntWalk.i64_in _ (by have := HYH.out; omega)]; omega
          have HT2 := Lib.hid (show y - s.toNat = leftR h (ST.take (k + 1)) by rw [HT.out]; unfold lf1; rw [if_neg hge, if_pos hp])
          go_wp2
          go_roundg (ST.length - (k + 1))
          case measure => omega
          case rel => exact ⟨k + 1, y - s.toNat, by simp, by simp, by omega, HT2.out, rfl⟩
        · have HT2 := Lib.hid (show y = leftR h (ST.take (k + 1)) by rw [HT.out]; unfold lf1; rw [if_neg hge, if_neg hp])
          go_wp2
          go_roundg (ST.length - (k + 1))
          case measure => omega
          case rel => exact ⟨k + 1, y, by simp, by simp, by omega, HT2.out, rfl⟩
    · have hlt' : ¬ (k : Int) < (ST.length : Int) := by omega
      have HV := Lib.hid (show R = y by
        rw [← HR.out, HY.out, List.take_of_length_le (by omega)])
      go_wp2
      go_ret
      exact ⟨by rw [HV.out]; rfl, rfl⟩
end Go.Proofs.YtlnjbadbpddlmaaDoor
