/-
  The contract of Fault's Error: the text of an error chain. Conditions: the chain lies in memory; its text stays below 2^47 bytes.
-/
import Derived.Test.YtjfjfgahfciflaaDoorText
import Derived.Test.YtjfjfgahfciflaaDoorBuilder
import Derived.StillTailTactics
import Derived.IntWalk
namespace Go.Proofs.YtjfjfgahfciflaaDoor
open Go.RowKit Go.Extern.Stop Go.Stop Go.Extern

/-- The text of a chain, as bytes. -/
def chainText (n : Int) : List (ByteArray × ByteArray) → List UInt8
  | [] => (errText n).data.toList
  | x :: r => x.1.data.toList ++ 32 :: x.2.data.toList ++ 58 :: 32 :: chainText n r
/-- The text of one wrapping. -/
def headText (x : ByteArray × ByteArray) : ByteArray := x.1 ++ ⟨#[32]⟩ ++ x.2 ++ ⟨#[58, 32]⟩
theorem headText_data (x : ByteArray × ByteArray) : (headText x).data.toList = x.1.data.toList ++ 32 :: x.2.data.toList ++ [58, 32] := by
  simp [headText, ByteArray.data_append]
theorem len_data (s : ByteArray) : s.data.toList.length = s.size := by simp
theorem headText_size (x : ByteArray × ByteArray) : (headText x).size = x.1.size + x.2.size + 3 := by
  have h := congrArg List.length (headText_data x)
  simp only [Array.length_toList, ByteArray.size_data, List.length_append, List.length_cons, List.length_nil] at h
  omega
theorem chainText_cons (n : Int) (x : ByteArray × ByteArray) (r : List (ByteArray × ByteArray)) : chainText n (x :: r) = (headText x).data.toList ++ chainText n r := by
  rw [headText_data]; simp [chainText]

theorem Tryd.isFaFa (v : Value) (w : World) : (Instr.typeAssert (.iface 41 v) 25 41 true).run Tryd.prog w = .ok (.tuple #[v, .bool true]) w := by kernel_rfl
theorem Tryd.isFaNo (v : Value) (w : World) : (Instr.typeAssert (.iface 29 v) 25 41 true).run Tryd.prog w = .ok (.tuple #[.pointer none, .bool false]) w := by kernel_rfl

theorem isBuilder_below {T e : TypeId} {B b : Nat} {bs : List Value} {w w' : World} (h : Lib.IsBuilder T e B b bs w) (hb : Below w.heap.size w w') : Lib.IsBuilder T e B b bs w' := by
  have one : ∀ p, Lib.BuilderAt T e B b p bs w → Lib.BuilderAt T e B b p bs w' := by
    rintro p ⟨h1, v, h2, h3, h4⟩
    refine ⟨h1, v, ?_, ?_, h4⟩
    · rw [hb.block b (Lib.BuilderAt.lt ⟨h1, v, h2, h3, h4⟩)]; exact h2
    · refine ⟨h3.1, ?_⟩
      rcases h3.2 with h5 | ⟨g, cap, cur, hv, hg, hh, r⟩
      · exact Or.inl h5
      · refine Or.inr ⟨g, cap, cur, hv, hg, ?_, r⟩
        rw [hb.block g (by
          rcases Nat.lt_or_ge g w.heap.size with h' | h'
          · exact h'
          · rw [Array.getElem?_eq_none h'] at hh; cases hh)]
        exact hh
  rcases h with h | h
  · exact Or.inl (one _ h)
  · exact Or.inr (one _ h)

/-- What holds ahead of a round of Error: 'p' is the Fault to be told, or nil; 'acc' has been written. -/
structure FErrAt (w : World) (n : Int) (l : List (ByteArray × ByteArray)) (k : Nat) (p : Value) (acc : List UInt8) (wr : World) : Prop where
  here : (p = .pointer none ∧ acc = chainText n l) ∨ ∃ x r b, p = .pointer (some ⟨b, 0, none⟩) ∧ Chain w n (x :: r) (.iface 41 (.pointer (some ⟨b, 0, none⟩))) ∧ acc ++ chainText n (x :: r) = chainText n l ∧ r.length + 1 = k
  builder : Lib.IsBuilder 94 5 w.heap.size w.heap.size (Lib.byteCells acc) wr
  below : Below w.heap.size w wr

set_option maxRecDepth 100000 in
set_option maxHeartbeats 2000000 in
theorem ferror_any (x : ByteArray × ByteArray) (r : List (ByteArray × ByteArray)) (n : Int) (b : Nat) (w : World) (hch : Chain w n (x :: r) (.iface 41 (.pointer (some ⟨b, 0, none⟩)))) (hlen : (chainText n (x :: r)).length ≤ 140737488355328) :
    Calls Tryd.prog 43 #[.pointer (some ⟨b, 0, none⟩)] w fun e w' => e = .returned (.string ⟨(chainText n (x :: r)).toArray⟩) ∧ Below w.heap.size w w' := by
  have s1 := Tryd.isFaFa
  have s2 := Tryd.isFaNo
  have m1 := Tryd.methodErrorNo
  have H0 : Hid (FErrAt w n (x :: r) (r.length + 1) (.pointer (some ⟨b, 0, none⟩)) [] (w.alloc (.cells #[.pointer none, .slice none 0 0] 94))) :=
    ⟨Or.inr ⟨x, r, b, rfl, hch, rfl, rfl⟩, Lib.fresh_isBuilder 94 5 w, (Below.refl _ _).alloc (Nat.le_refl _) _⟩
  have HLEN := Lib.hid hlen
  clear hch hlen
  generalize hL : x :: r = l at *
  generalize r.length + 1 = k0 at *
  have HLL := Lib.hid hL
  clear hL
  go_enter Tryd.func43, Tryd.ntmps43
  go_wp2
  go_loopg [0] k0 (fun k p wr => ∃ acc, Hid (FErrAt w n l k p acc wr))
  case atStart => exact ⟨[], H0.out⟩
  case round =>
    clear H0 HLL
    obtain ⟨acc, HR⟩ := hrel
    rcases HR.out.here with ⟨rfl, hacc⟩ | ⟨x, r, b, rfl, hch, hacc, hk⟩
    · subst hacc
      go_wp2_with fail
      refine (Tryd.Builder_String_any w.heap.size w.heap.size (chainText n l) _ HR.out.builder HR.out.below.size).mono ?_
      rintro e w1 ⟨rfl, hb⟩
      have HB := Lib.hid hb
      clear hb
      go_wp2
      go_ret
      exact ⟨rfl, HR.out.below.trans HB.out⟩
    · obtain ⟨b', v', hv, h2, h3, h4, h5, h6⟩ := hch
      obtain rfl : b = b' := by simpa using hv
      clear hv
      have HA := Lib.hid hacc
      have HK := Lib.hid hk
      have hsz : acc.length + (x.1.size + x.2.size + 3) + (chainText n r).length ≤ 140737488355328 := by
        have h1 := congrArg List.length hacc
        rw [chainText_cons, List.length_append, List.length_append, len_data, headText_size] at h1
        have := HLEN.out
        omega
      clear hacc hk
      have H5 := Lib.hid h5
      have H6 := Lib.hid h6
      have g3 := (HR.out.below.cell (p := ⟨b, 0, none⟩) h2).trans h3
      have g4 := (HR.out.below.cell (p := ⟨b, 0 + 1, none⟩) h2).trans h4
      clear h3 h4 h5 h6
      have z1 : ¬ 9223372036854775807 < x.1.size + 1 := by omega
      have z2 : ¬ 9223372036854775807 < x.1.size + 1 + x.2.size := by omega
      have z3 : ¬ 9223372036854775807 < x.1.size + 1 + x.2.size + 2 := by omega
      go_wp2_with fail
      go_still_tail 11, (by kernel_rfl)
      change wpList _ _ _ _ _ wr.drew
      have HB2 : Hid (Lib.IsBuilder 94 5 w.heap.size w.heap.size (Lib.byteCells acc) wr.drew ∧ Below w.heap.size w wr.drew) := ⟨isBuilder_below HR.out.builder (Below.refl _ _).drew, HR.out.below.drew⟩
      clear g3 g4 z1 z2 z3 HR
      generalize wr.drew = w2 at *
      go_wp2_with fail
      refine (writeString_any w.heap.size w.heap.size (Lib.byteCells acc) (headText x) w2 HB2.out.1 (by rw [Lib.byteCells_length, headText_size]; omega) HB2.out.2.size).mono ?_
      rintro e w3 ⟨rfl, hbd, hb⟩
      have HB3 : Hid (Lib.IsBuilder 94 5 w.heap.size w.heap.size (Lib.byteCells (acc ++ (headText x).data.toList)) w3 ∧ Below w.heap.size w w3) := ⟨Or.inr (by rw [Lib.byteCells_append, ← Lib.strCells_eq]; exact hbd), HB2.out.2.trans hb⟩
      clear hbd hb HB2
      have g5 := (HB3.out.2.cell (p := ⟨b, 0 + 1 + 1, none⟩) h2).trans H5.out
      cases r with
      | cons y r =>
        obtain ⟨b2, v2, hv2, q2, _, _, _, _⟩ := H6.out
        subst hv2
        go_wp2
        go_roundg (r.length + 1)
        case measure => have := HK.out; simp at this; omega
        case rel => exact ⟨_, ⟨Or.inr ⟨y, r, b2, rfl, H6.out, by rw [List.append_assoc, ← chainText_cons]; exact HA.out, rfl⟩, HB3.out.1, HB3.out.2⟩⟩
      | nil =>
        obtain rfl : v' = Value.iface 29 (.int .i64 n) := H6.out
        go_wp2_with fail
        refine (errno_any n w3).mono ?_
        rintro e w4 ⟨rfl, hb⟩
        have HB4 : Hid (Lib.IsBuilder 94 5 w.heap.size w.heap.size (Lib.byteCells (acc ++ (headText x).data.toList)) w4 ∧ Below w.heap.size w w4) := ⟨isBuilder_below HB3.out.1 hb, HB3.out.2.trans (hb.mono HB3.out.2.size)⟩
        clear hb HB3 g5
        go_wp2_with fail
        refine (writeString_any w.heap.size w.heap.size _ (errText n) w4 HB4.out.1 (by have := errText_size n; rw [Lib.byteCells_length, List.length_append, len_data, headText_size]; simp [chainText] at hsz; omega) HB4.out.2.size).mono ?_
        rintro e w5 ⟨rfl, hbd, hb⟩
        have HB5 : Hid (Lib.IsBuilder 94 5 w.heap.size w.heap.size (Lib.byteCells (acc ++ (headText x).data.toList ++ (errText n).data.toList)) w5 ∧ Below w.heap.size w w5) := ⟨Or.inr (by rw [Lib.byteCells_append, ← Lib.strCells_eq]; exact hbd), HB4.out.2.trans hb⟩
        clear hbd hb HB4
        go_wp2
        go_roundg 0
        case measure => have := HK.out; simp at this; omega
        case rel => exact ⟨_, ⟨Or.inl ⟨rfl, by rw [← HA.out, chainText_cons]; simp [chainText]⟩, HB5.out.1, HB5.out.2⟩⟩
end Go.Proofs.YtjfjfgahfciflaaDoor
