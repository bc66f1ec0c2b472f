/-
  The landed disk of layer 5 in memory: its struct, its two maps, the rows of writes that aren't firm; which blocks are its own; what a call leaves alone. No condition.
-/
import Derived.Test.YtpimclhdimcioaaDoorWrAt
import Derived.Test.YtpimclhdimcioaaDoorMapRange
import Derived.Test.YtpimclhdimcioaaDoorMapTight
import Derived.Test.YtpimclhdimcioaaDoorS5Math
import Derived.Laws.AppendOwn
namespace Go.Proofs.YtpimclhdimcioaaDoor
open Go.RowKit Go.Maps

/-- But for the blocks of F all that was there is as it was. -/
structure Fr (F : Nat → Prop) (w w' : World) : Prop where
  os : w'.os = w.os
  tape : w'.tape = w.tape
  output : w'.output = w.output
  size : w.heap.size ≤ w'.heap.size
  block : ∀ k, k < w.heap.size → ¬ F k → w'.heap[k]? = w.heap[k]?
theorem Fr.refl (F : Nat → Prop) (w : World) : Fr F w w := ⟨rfl, rfl, rfl, Nat.le_refl _, fun _ _ _ => rfl⟩
theorem Fr.trans {F F1 : Nat → Prop} {w w1 w2 : World} (h : Fr F w w1) (k : Fr F1 w1 w2) (hF : ∀ j, F1 j → F j ∨ w.heap.size ≤ j) : Fr F w w2 :=
  ⟨k.os.trans h.os, k.tape.trans h.tape, k.output.trans h.output, Nat.le_trans h.size k.size, fun i hi hn => (k.block i (Nat.lt_of_lt_of_le hi h.size) fun h1 => by
    rcases hF i h1 with h2 | h2
    · exact hn h2
    · omega).trans (h.block i hi hn)⟩
theorem Fr.of_below {F : Nat → Prop} {w w' : World} (h : Below w.heap.size w w') : Fr F w w' := ⟨h.os, h.tape, h.output, h.size, fun k hk _ => h.block k hk⟩
theorem Fr.below {F : Nat → Prop} {w w' : World} {B : Nat} (h : Fr F w w') (hB : B ≤ w.heap.size) (hF : ∀ k, F k → B ≤ k) : Below B w w' :=
  ⟨h.os, h.tape, h.output, h.size, fun k hk => h.block k (by omega) fun e => by have := hF k e; omega⟩
theorem Fr.of_grown {F : Nat → Prop} {w w' : World} {row : Option Nat} (h : w.grownBy w' row) (hr : ∀ k, row = some k → F k) : Fr F w w' := ⟨h.os, h.tape, h.output, h.size, fun k hk hn => h.block k hk fun e => hn (hr k e.symm)⟩
theorem Fr.drew {F : Nat → Prop} {w w' : World} (h : Fr F w w') : Fr F w w'.drew := ⟨h.os, h.tape, h.output, h.size, h.block⟩
theorem Fr.alloc {F : Nat → Prop} {w w' : World} (h : Fr F w w') (o : Obj) : Fr F w (w'.alloc o) :=
  ⟨h.os, h.tape, h.output, by have := h.size; simp; omega, fun k hk hn => (Below.heap_alloc _ _ _ (Nat.lt_of_lt_of_le hk h.size)).trans (h.block k hk hn)⟩
theorem Fr.setCell {F : Nat → Prop} {w w' : World} (h : Fr F w w') {p : Addr} (hp : F p.block ∨ w.heap.size ≤ p.block) (v : Value) : Fr F w (w'.setCell p v) :=
  ⟨h.os, h.tape, h.output, by simpa [World.setCell] using h.size, fun k hk hn => (Below.heap_setCell _ _ _ _ (fun e => by
    subst e
    rcases hp with hp | hp
    · exact hn hp
    · omega)).trans (h.block k hk hn)⟩
theorem Fr.mono {F G : Nat → Prop} {w w' : World} (h : Fr F w w') (hF : ∀ k, F k → G k ∨ w.heap.size ≤ k) : Fr G w w' := ⟨h.os, h.tape, h.output, h.size, fun k hk hn => h.block k hk fun e => by
  rcases hF k e with h1 | h1
  · exact hn h1
  · omega⟩

theorem cell_of {w : World} {b : Nat} {cs : Array Value} {t : TypeId} (h : w.heap[b]? = some (.cells cs t (0, 0))) {j : Nat} {v : Value} (hj : cs[j]? = some v) : w.cell? ⟨b, j, none⟩ = some v ∧ w.frozen? ⟨b, j, none⟩ = false := by
  simp [World.cell?, World.frozen?, h, hj]
theorem set_of {w : World} {b : Nat} {cs : Array Value} {t : TypeId} (h : w.heap[b]? = some (.cells cs t (0, 0))) (j : Nat) (v : Value) : (w.setCell ⟨b, j, none⟩ v).heap[b]? = some (.cells (cs.setIfInBounds j v) t (0, 0)) := by
  simp [World.setCell, Array.getElem?_modify, h]
theorem MapOf.isMap {P : Program} {k : TypeId} {w : World} {b n : Nat} {f : Int → Option Value} (h : MapOf P k w b n f) : ∃ es c, w.heap[b]? = some (.map es c) := by
  obtain ⟨D, ⟨es, clock, h1, _⟩, _⟩ := h
  exact ⟨es, clock, h1⟩
theorem owns_block {w w' : World} {B : Nat} {e : TypeId} {C : Nat} {g n cap : Nat} {xs : List Value} (h : w.ownsRow B e C (.slice (some ⟨g, 0, none⟩) n cap) n xs) (hb : w'.heap[g]? = w.heap[g]?) : w'.ownsRow B e C (.slice (some ⟨g, 0, none⟩) n cap) n xs := by
  obtain ⟨h1, ⟨h2, _⟩ | ⟨g', cap', cur, h2, h3, h4, h5⟩⟩ := h
  · cases h2
  · cases h2
    exact ⟨h1, .inr ⟨g, cap, cur, rfl, h3, hb.trans h4, h5⟩⟩
theorem owns_lt {w : World} {B : Nat} {e : TypeId} {C : Nat} {g n cap : Nat} {xs : List Value} (h : w.ownsRow B e C (.slice (some ⟨g, 0, none⟩) n cap) n xs) : g < w.heap.size ∧ ∃ cur, w.heap[g]? = some (.cells cur e (0, 0)) := by
  obtain ⟨h1, ⟨h2, _⟩ | ⟨g', cap', cur, h2, h3, h4, h5⟩⟩ := h
  · cases h2
  · cases h2
    exact ⟨(Array.getElem?_eq_some_iff.1 h4).1, cur, h4⟩

/-- At a sector: nothing is kept in mind, or a row of writes in a block of its own. -/
def SoftAt (w : World) (F : Nat → Prop) (l : List WrL) : Option Value → Prop
  | none => l = []
  | some v => l ≠ [] ∧ ∃ g cap, v = .slice (some ⟨g, 0, none⟩) l.length cap ∧ F g ∧ w.ownsRow 0 70 65 (.slice (some ⟨g, 0, none⟩) l.length cap) l.length (l.flatMap wCells)
theorem SoftAt.keep {w w' : World} {F F' : Nat → Prop} {l : List WrL} {o : Option Value} (h : SoftAt w F l o) (hF : ∀ k, F k → F' k) (hb : ∀ g n c, o = some (.slice (some ⟨g, 0, none⟩) n c) → w'.heap[g]? = w.heap[g]?) : SoftAt w' F' l o := by
  cases o with
  | none => exact h
  | some v =>
    obtain ⟨h1, g, cap, rfl, h2, h3⟩ := h
    exact ⟨h1, g, cap, rfl, hF g h2, owns_block h3 (hb g _ _ rfl)⟩

/-- The struct's cells. -/
def DskV.cells (D : DskV) (mf ms : Nat) : Array Value := #[.int .i64 D.size, .bool D.down, .int .i64 D.budget, .map (some mf), .map (some ms), .int .i64 (D.soft.length : Int)]
structure DskIn (w : World) (F : Nat → Prop) (b : Nat) (D : DskV) (mf ms nf ns : Nat) (ff : Int → Option PgL) (fs : Int → Option Value) : Prop where
  ok : D.ok
  cells : w.heap[b]? = some (.cells (D.cells mf ms) 61 (0, 0))
  inb : F b
  inf : F mf
  ins : F ms
  lt : ∀ k, F k → k < w.heap.size
  ne : mf ≠ ms
  firm : MapOf Tryd.prog 3 w mf nf (fun i => (ff i).map pgv)
  firmAt : ∀ i, (ff i).getD zpg = D.firm i
  firmIn : ∀ i, ff i ≠ none → 0 ≤ i ∧ i < D.size
  soft : MapOf Tryd.prog 3 w ms ns fs
  softAt : ∀ i, SoftAt w F (sftOf D.soft i) (fs i)
  apart : ∀ i j g n c n' c', fs i = some (.slice (some ⟨g, 0, none⟩) n c) → fs j = some (.slice (some ⟨g, 0, none⟩) n' c') → i = j
/-- Block b is a disk that holds D; its blocks are those of F. -/
def IsDsk (w : World) (F : Nat → Prop) (b : Nat) (D : DskV) : Prop := ∃ mf ms nf ns ff fs, DskIn w F b D mf ms nf ns ff fs

section
variable {w w' : World} {F : Nat → Prop} {b : Nat} {D : DskV} {mf ms nf ns : Nat} {ff : Int → Option PgL} {fs : Int → Option Value}
theorem DskIn.keep (h : DskIn w F b D mf ms nf ns ff fs) (hb : ∀ k, F k → w'.heap[k]? = w.heap[k]?) (hs : w.heap.size ≤ w'.heap.size) : DskIn w' F b D mf ms nf ns ff fs :=
  ⟨h.ok, (hb b h.inb).trans h.cells, h.inb, h.inf, h.ins, fun k hk => Nat.lt_of_lt_of_le (h.lt k hk) hs, h.ne, h.firm.of_block (hb mf h.inf), h.firmAt, h.firmIn, h.soft.of_block (hb ms h.ins),
    fun i => (h.softAt i).keep (fun _ hk => hk) fun g n c e => by
      have h1 := h.softAt i
      rw [e] at h1
      obtain ⟨_, g', cap, e2, h2, _⟩ := h1
      cases e2
      exact hb g h2, h.apart⟩
theorem IsDsk.keep (h : IsDsk w F b D) (hb : ∀ k, F k → w'.heap[k]? = w.heap[k]?) (hs : w.heap.size ≤ w'.heap.size) : IsDsk w' F b D := by
  obtain ⟨mf, ms, nf, ns, ff, fs, h⟩ := h
  exact ⟨mf, ms, nf, ns, ff, fs, h.keep hb hs⟩
theorem IsDsk.lt (h : IsDsk w F b D) : ∀ k, F k → k < w.heap.size := by
  obtain ⟨mf, ms, nf, ns, ff, fs, h⟩ := h
  exact h.lt
theorem IsDsk.inb (h : IsDsk w F b D) : F b := by
  obtain ⟨mf, ms, nf, ns, ff, fs, h⟩ := h
  exact h.inb
theorem IsDsk.ok (h : IsDsk w F b D) : D.ok := by
  obtain ⟨mf, ms, nf, ns, ff, fs, h⟩ := h
  exact h.ok
theorem IsDsk.below (h : IsDsk w F b D) (hb : Below w.heap.size w w') : IsDsk w' F b D := h.keep (fun k hk => hb.block k (h.lt k hk)) hb.size
/-- Another disk's call leaves it alone. -/
theorem IsDsk.fr (h : IsDsk w F b D) {G : Nat → Prop} (hf : Fr G w w') (hd : ∀ k, F k → ¬ G k) : IsDsk w' F b D := h.keep (fun k hk => hf.block k (h.lt k hk) (hd k hk)) hf.size
theorem DskIn.at (h : DskIn w F b D mf ms nf ns ff fs) {j : Nat} {v : Value} (hj : (D.cells mf ms)[j]? = some v) : w.cell? ⟨b, j, none⟩ = some v ∧ w.frozen? ⟨b, j, none⟩ = false := cell_of h.cells hj
theorem DskIn.c0 (h : DskIn w F b D mf ms nf ns ff fs) : w.cell? ⟨b, 0, none⟩ = some (.int .i64 D.size) := (h.at (j := 0) rfl).1
theorem DskIn.c1 (h : DskIn w F b D mf ms nf ns ff fs) : w.cell? ⟨b, 1, none⟩ = some (.bool D.down) := (h.at (j := 1) rfl).1
theorem DskIn.c2 (h : DskIn w F b D mf ms nf ns ff fs) : w.cell? ⟨b, 2, none⟩ = some (.int .i64 D.budget) := (h.at (j := 2) rfl).1
theorem DskIn.c3 (h : DskIn w F b D mf ms nf ns ff fs) : w.cell? ⟨b, 3, none⟩ = some (.map (some mf)) := (h.at (j := 3) rfl).1
theorem DskIn.c4 (h : DskIn w F b D mf ms nf ns ff fs) : w.cell? ⟨b, 4, none⟩ = some (.map (some ms)) := (h.at (j := 4) rfl).1
theorem DskIn.c5 (h : DskIn w F b D mf ms nf ns ff fs) : w.cell? ⟨b, 5, none⟩ = some (.int .i64 (D.soft.length : Int)) := (h.at (j := 5) rfl).1
theorem DskIn.f1 (h : DskIn w F b D mf ms nf ns ff fs) : w.frozen? ⟨b, 1, none⟩ = false := (h.at (j := 1) rfl).2
theorem DskIn.f2 (h : DskIn w F b D mf ms nf ns ff fs) : w.frozen? ⟨b, 2, none⟩ = false := (h.at (j := 2) rfl).2
theorem DskIn.f4 (h : DskIn w F b D mf ms nf ns ff fs) : w.frozen? ⟨b, 4, none⟩ = false := (h.at (j := 4) rfl).2
theorem DskIn.f5 (h : DskIn w F b D mf ms nf ns ff fs) : w.frozen? ⟨b, 5, none⟩ = false := (h.at (j := 5) rfl).2
theorem DskIn.ne_bf (h : DskIn w F b D mf ms nf ns ff fs) : b ≠ mf := fun e => by
  obtain ⟨es, c, h1⟩ := h.firm.isMap
  rw [← e, h.cells] at h1
  cases h1
theorem DskIn.ne_bs (h : DskIn w F b D mf ms nf ns ff fs) : b ≠ ms := fun e => by
  obtain ⟨es, c, h1⟩ := h.soft.isMap
  rw [← e, h.cells] at h1
  cases h1
/-- A row's block is none of the others. -/
theorem DskIn.row (h : DskIn w F b D mf ms nf ns ff fs) {i : Int} {g n c : Nat} (e : fs i = some (.slice (some ⟨g, 0, none⟩) n c)) : g ≠ b ∧ g ≠ mf ∧ g ≠ ms ∧ F g := by
  have h1 := h.softAt i
  rw [e] at h1
  obtain ⟨_, g', cap, e2, h2, h3⟩ := h1
  cases e2
  obtain ⟨_, cur, h4⟩ := owns_lt h3
  refine ⟨fun e => ?_, fun e => ?_, fun e => ?_, h2⟩
  · rw [e, h.cells] at h4
    cases h4
  · obtain ⟨es, c, h5⟩ := h.firm.isMap
    rw [e, h5] at h4
    cases h4
  · obtain ⟨es, c, h5⟩ := h.soft.isMap
    rw [e, h5] at h4
    cases h4
/-- A cell of the struct is set. -/
theorem DskIn.set (h : DskIn w F b D mf ms nf ns ff fs) {D' : DskV} {j : Nat} {v : Value} (hok : D'.ok) (hc : (D.cells mf ms).setIfInBounds j v = D'.cells mf ms) (hs : D'.soft = D.soft) (hf : D'.firm = D.firm) (hz : D'.size = D.size) : DskIn (w.setCell ⟨b, j, none⟩ v) F b D' mf ms nf ns ff fs := by
  have hb : ∀ k, k ≠ b → (w.setCell ⟨b, j, none⟩ v).heap[k]? = w.heap[k]? := fun k hk => Below.heap_setCell _ _ _ _ hk
  refine ⟨hok, by rw [set_of h.cells, hc], h.inb, h.inf, h.ins, fun k hk => by simpa [World.setCell] using h.lt k hk, h.ne, h.firm.of_block (hb mf h.ne_bf.symm), by rw [hf]; exact h.firmAt, by rw [hz]; exact h.firmIn, h.soft.of_block (hb ms h.ne_bs.symm), fun i => ?_, h.apart⟩
  rw [hs]
  exact (h.softAt i).keep (fun _ hk => hk) fun g n c e => hb g (h.row e).1
end
end Go.Proofs.YtpimclhdimcioaaDoor
