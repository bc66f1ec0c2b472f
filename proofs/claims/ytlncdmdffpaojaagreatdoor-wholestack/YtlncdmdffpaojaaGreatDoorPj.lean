/-
  The contract of path.Parent of any path, the root among them. Condition: it is a path.
  The contract of package fold's plain. No condition.
  A map in memory whose keys are of type string, whatever its elements are, told by a function from keys to what stands there: made, looked into, stored into. Condition: keys of at most maxLen bytes.
  The contract of package fold's Tree. Conditions: the list lies in memory, has at most 1000 entries, its texts at most 100000 bytes.
  What package fold's functions, and package layer's Right, answer, as one statement about all of them (Fold10): the laws of layer 10 are walked over it. Conditions: lists in memory, of at most 1000 entries, texts of at most 100000 bytes.
  What a layer laid over a tree comes to, told by what stays of the tree, what the layer shows, and the order of paths. No condition.
  Whether an entry of a tree goes when a right layer is laid over it, told by what a map of the layer has at the entry's path and at those above it. No condition.
  The contract of package fold's gone: a closure that holds a map of a layer's kinds. Conditions: the layer lies in memory, has at most 1000 entries, paths of at most 100000 bytes.
  The contract of the closure that package fold's gone answers: whether an entry of a tree goes. Conditions: the closure holds the map of a right layer; the entry is right.
-/
import Derived.Test.YtlncdmdffpaojaaGreatDoorPb
import Derived.Test.YtlncdmdffpaojaaGreatDoorS3ParG
import Derived.Lib.Hide
import Derived.Test.YtlncdmdffpaojaaGreatDoorPc
import Derived.WalkKit
import Derived.Maps.OwnOps
import Derived.Maps.Views
import Derived.StringKeys
import Derived.Test.YtlncdmdffpaojaaGreatDoorPh
import Derived.Deep.LoopGhost
import Derived.IntWalk
import Derived.Test.YtlncdmdffpaojaaGreatDoorEnv
import Derived.Test.YtlncdmdffpaojaaGreatDoorS10Few
namespace Go.Proofs.YtlncdmdffpaojaaGreatDoor
open Go.RowKit

theorem at10 (o p : ByteArray) (u : TypeId) (y : Value) (w : World) : Calls Tryz.prog 26 #[.string o, .string p, .iface u y] w
    fun e w' => e = .returned (.iface 94 (.pointer (some ⟨w.heap.size, 0, none⟩))) ∧ Below w.heap.size w w' := by
  go_enter Tryz.func26, Tryz.ntmps26
  go_wp2
  go_ret
  exact ⟨rfl, (Below.refl _ _).alloc (Nat.le_refl _) _⟩
set_option maxHeartbeats 2000000 in
/-- Parent of the root. -/
theorem parRoot10 (w : World) : Calls Tryz.prog 35 #[.string ⟨#[47]⟩] w fun e w' => ∃ u y, e = .returned (.tuple #[.string ⟨#[]⟩, .string ⟨#[]⟩, .iface u y]) ∧ Below w.heap.size w w' := by
  go_enter Tryz.func35, Tryz.ntmps35
  go_wp2_with fail
  refine (deep_any ⟨#[47]⟩ (by decide) _).mono ?_
  rintro e w1 ⟨rfl, hb⟩
  rw [show dp (⟨#[47]⟩ : ByteArray).data.toList = 0 by decide]
  have HB := Lib.hid hb
  clear hb
  go_wp2_with fail
  refine (at10 _ _ _ _ w1).mono ?_
  rintro e w2 ⟨rfl, hb⟩
  have HB2 := Lib.hid (HB.out.trans (hb.mono HB.out.size))
  clear hb
  go_wp2
  go_ret3
  exact ⟨_, _, rfl, HB2.out⟩
/-- Parent of a path: its directory; of the root an error. -/
theorem par10 (p : ByteArray) (hP : isP p.data.toList) (w : World) : Calls Tryz.prog 35 #[.string p] w fun e w' => ∃ d n er, e = .returned (.tuple #[.string d, .string n, er]) ∧ ((p.data.toList = [47] ∧ ∃ u y, er = .iface u y) ∨ (p.data.toList ≠ [47] ∧ er = .nilIface ∧ d.data.toList = par9 p.data.toList)) ∧ Below w.heap.size w w' := by
  by_cases h : p.data.toList = [47]
  · obtain rfl : p = ⟨#[47]⟩ := ba_ext h
    refine (parRoot10 w).mono ?_
    rintro e w' ⟨u, y, rfl, hb⟩
    exact ⟨_, _, _, rfl, .inl ⟨rfl, u, y, rfl⟩, hb⟩
  · obtain ⟨ms, x, _, a2, _, a4, a5⟩ := par9_parts hP h
    refine (parent_good p ms x hP a2 a4 h w).mono ?_
    rintro e w' ⟨d, n, rfl, h1, _, hb⟩
    exact ⟨d, n, _, rfl, .inr ⟨h, rfl, by rw [h1, a5]⟩, hb⟩
end Go.Proofs.YtlncdmdffpaojaaGreatDoor

namespace Go.Proofs.YtlncdmdffpaojaaGreatDoor
open Go.RowKit

theorem plain10 (e : Ent) (w : World) : Calls Tryz.prog 105 #[enV e] w fun r w' => r = .returned (.bool (e.2.1 == 1 || e.2.1 == 2)) ∧ Below w.heap.size w w' := by
  obtain ⟨p, k, d⟩ := e
  by_cases h1 : k = 1
  · have g : (k == 1) = true := by rw [h1]; rfl
    show Calls _ _ _ _ fun r w' => r = .returned (.bool (k == 1 || k == 2)) ∧ _
    rw [g, Bool.true_or]
    clear h1
    go_enter Tryz.func105, Tryz.ntmps105
    go_wp2
    go_ret
    exact ⟨by simp, (Below.refl _ _).alloc (Nat.le_refl _) _⟩
  · have g : (k == 1) = false := beq_eq_false_iff_ne.2 h1
    show Calls _ _ _ _ fun r w' => r = .returned (.bool (k == 1 || k == 2)) ∧ _
    rw [g, Bool.false_or]
    clear h1
    go_enter Tryz.func105, Tryz.ntmps105
    go_wp2
    go_ret
    exact ⟨by simp, (Below.refl _ _).alloc (Nat.le_refl _) _⟩
end Go.Proofs.YtlncdmdffpaojaaGreatDoor

namespace Go.Proofs.YtlncdmdffpaojaaGreatDoor
open Go.RowKit Go.Maps Go.WideMaps

/-- An element of any type, taken as it is. -/
def anyElemS (v : Value) : Option (DataW Value × List MemPlace) := some (.held v, [])
/-- Block b is a map of at most n entries; at each key stands what f says. -/
def MapS (P : Program) (k : TypeId) (w : World) (b n : Nat) (f : List UInt8 → Option Value) : Prop :=
  ∃ D : DataW Value, w.ownsMap P k anyElemS b n D ∧ ∀ i : ByteArray, i.size ≤ maxLen → ∀ zd, D.atKey (.string i.data.toList) zd = (match f i.data.toList with | some v => .held v | none => zd)

variable {P : Program} {t k e : TypeId} {w : World} {b n : Nat} {f : List UInt8 → Option Value}
theorem mapS_made (P : Program) (k : TypeId) (w : World) : MapS P k (w.alloc (.map #[] 0)) w.heap.size 0 fun _ => none :=
  ⟨_, World.ownsMap_made w P k anyElemS, fun _ _ _ => rfl⟩
theorem MapS.lt (h : MapS P k w b n f) : b < w.heap.size := h.elim fun _ h => h.1.lt
theorem MapS.mono (h : MapS P k w b n f) {n' : Nat} (hn : n ≤ n') : MapS P k w b n' f := h.elim fun D h => ⟨D, h.1.mono hn, h.2⟩
theorem MapS.of_block {w' : World} (h : MapS P k w b n f) (hb : w'.heap[b]? = w.heap[b]?) : MapS P k w' b n f := by
  obtain ⟨D, ⟨es, clock, h1, h2⟩, h3⟩ := h
  exact ⟨D, ⟨es, clock, hb.trans h1, h2⟩, h3⟩
theorem MapS.below {w' : World} (h : MapS P k w b n f) (hb : Below w.heap.size w w') : MapS P k w' b n f := h.of_block (hb.block b h.lt)
theorem MapS.kept {w' : World} {row : Option Nat} (h : MapS P k w b n f) (hg : w.grownBy w' row) (hne : some b ≠ row) : MapS P k w' b n f := h.elim fun D h => ⟨D, h.1.kept hg hne, h.2⟩
theorem MapS.look (h : MapS P k w b n f) (hk : P.underlying k = some .string) (ht : P.underlying t = some (.map k e)) {z : Value} (hz : (zeroValue e).run P w = .ok z w) {i : ByteArray} (hi : i.size ≤ maxLen) :
    (Instr.lookup t (.map (some b)) (.string i) false).run P w = .ok ((f i.data.toList).getD z) w ∧ (Instr.lookup t (.map (some b)) (.string i) true).run P w = .ok (.tuple #[(f i.data.toList).getD z, .bool (f i.data.toList).isSome]) w := by
  obtain ⟨D, ⟨es, clock, hb, F, _, rfl⟩, hat⟩ := h
  have ha := hat i hi
  have two : ∀ c, (Instr.lookup t (.map (some b)) (.string i) c).run P w = .ok (if c then .tuple #[(f i.data.toList).getD z, .bool (f i.data.toList).isSome] else (f i.data.toList).getD z) w := fun c => by
    rcases Maps.fit_look c (string_keyed hk) ht hz hb F (keyOf_string_mk hk hi) with ⟨hrun, _, hn⟩ | ⟨e0, y, _, _, hrun, hR, hy, _⟩
    · have hf : f i.data.toList = none := by
        cases hf : f i.data.toList with
        | none => rfl
        | some v =>
          have h1 := ha .nil
          rw [hf, hn .nil] at h1
          cases h1
      rw [hrun, hf]
      rfl
    · have hf : f i.data.toList = some e0.val := by
        have h0 : y = (.held e0.val, []) := (Option.some.inj hR).symm
        have h1 := ha .nil
        rw [hy .nil, h0] at h1
        cases hf : f i.data.toList with
        | none => rw [hf] at h1; cases h1
        | some v => rw [hf] at h1; injection h1 with h1; rw [h1]
      rw [hrun, hf]
      rfl
  exact ⟨two false, two true⟩
theorem MapS.put (h : MapS P k w b n f) (hk : P.underlying k = some .string) (ht : P.underlying t = some (.map k e)) (hn : n < maxLen) {i : ByteArray} (hi : i.size ≤ maxLen) (v : Value) :
    ∃ w', (Instr.mapUpdate t (.map (some b)) (.string i) v).run P w = .ok () w' ∧ MapS P k w' b (n + 1) (fun x => if x = i.data.toList then some v else f x) ∧ w.grownBy w' (some b) := by
  obtain ⟨D, ho, hat⟩ := h
  obtain ⟨w', h1, h2, h3⟩ := ho.update (string_keyed hk) ht hn (keyOf_string_mk hk hi) (val := v) (d := .held v) (ps := []) rfl
  refine ⟨w', h1, ⟨_, h2, fun x hx zd => ?_⟩, h3⟩
  obtain ⟨es, clock, _, _, _, rfl⟩ := ho
  by_cases e : x.data.toList = i.data.toList
  · rw [e]
    rw [atKey_put_same ⟨_, rfl⟩ (show WideAt.IsKeyLit (.string i.data.toList) from trivial)]
    simp
  · rw [atKey_put_other (by simpa using e), hat x hx zd]
    simp [e]
end Go.Proofs.YtlncdmdffpaojaaGreatDoor

namespace Go.Proofs.YtlncdmdffpaojaaGreatDoor
open Go.RowKit Go.Maps

/-- The directories that a map holds behind a list of entries. -/
def dset (l : List Ent) : List UInt8 → Option Value := l.foldl (fun f e => if hd e = true then fun x => if x = pl e then some (.agg #[]) else f x else f) fun x => if x = [47] then some (.agg #[]) else none
theorem dset_snoc (l : List Ent) (e : Ent) : dset (l ++ [e]) = if hd e = true then fun x => if x = pl e then some (.agg #[]) else dset l x else dset l := by unfold dset; rw [List.foldl_append]; rfl
theorem dset_some (l : List Ent) (p : List UInt8) : dset l p = if p = [47] ∨ ∃ d ∈ l, pl d = p ∧ hd d = true then some (.agg #[]) else none := by
  have key : ∀ n (l : List Ent), l.length = n → dset l p = if p = [47] ∨ ∃ d ∈ l, pl d = p ∧ hd d = true then some (.agg #[]) else none := by
    intro n
    induction n with
    | zero =>
      intro l hl
      rw [List.length_eq_zero_iff.1 hl]
      simp [dset]
    | succ n ih =>
      intro l hl
      rcases List.eq_nil_or_concat l with rfl | ⟨r, e, rfl⟩
      · simp at hl
      · rw [List.concat_eq_append] at *
        have ih := ih r (by simpa using hl)
        rw [dset_snoc]
        by_cases he : hd e = true
        · rw [if_pos he]
          show (if p = pl e then some (.agg #[]) else dset r p) = _
          by_cases hp : p = pl e
          · rw [if_pos hp, if_pos (.inr ⟨e, by simp, hp.symm, he⟩)]
          · rw [if_neg hp, ih]
            congr 1
            rw [eq_iff_iff]
            refine or_congr_right ⟨fun ⟨d, h1, h2⟩ => ⟨d, by simp [h1], h2⟩, fun ⟨d, h1, h2⟩ => ?_⟩
            rcases List.mem_append.1 h1 with h1 | h1
            · exact ⟨d, h1, h2⟩
            · obtain rfl : d = e := by simpa using h1
              exact absurd h2.1.symm hp
        · rw [if_neg he, ih]
          congr 1
          rw [eq_iff_iff]
          refine or_congr_right ⟨fun ⟨d, h1, h2⟩ => ⟨d, by simp [h1], h2⟩, fun ⟨d, h1, h2⟩ => ?_⟩
          rcases List.mem_append.1 h1 with h1 | h1
          · exact ⟨d, h1, h2⟩
          · obtain rfl : d = e := by simpa using h1
            exact absurd h2.2 he
  exact key _ l rfl
theorem dset_in (l : List Ent) (e : Ent) : (dset l (par9 (pl e))).isSome = decide (inD l e) := by
  rw [dset_some]
  by_cases h : inD l e
  · have h' : par9 (pl e) = [47] ∨ ∃ d ∈ l, pl d = par9 (pl e) ∧ hd d = true := h
    rw [if_pos h', decide_eq_true h]; rfl
  · have h' : ¬ (par9 (pl e) = [47] ∨ ∃ d ∈ l, pl d = par9 (pl e) ∧ hd d = true) := h
    rw [if_neg h', decide_eq_false h]; rfl
theorem dset_get (l : List Ent) (p : List UInt8) : (dset l p).getD (.agg #[]) = .agg #[] := by rw [dset_some]; split <;> rfl
theorem tr_snoc {l : List Ent} {e : Ent} : TR (l ++ [e]) ↔ TR l ∧ rE e = true ∧ e.2.1 ≤ 2 ∧ (∀ a, l.getLast? = some a → lt8 (pl a) (pl e) = true) ∧ inD l e := by
  unfold TR
  rw [rl_snoc]
  constructor
  · rintro ⟨⟨h1, h2, h3, h4⟩, h5⟩
    exact ⟨⟨h1, fun x hx => h5 x (by simp [hx])⟩, h2, h5 e (by simp), h3, h4⟩
  · rintro ⟨⟨h1, h6⟩, h2, h5, h3, h4⟩
    refine ⟨⟨h1, h2, h3, h4⟩, fun x hx => ?_⟩
    rcases List.mem_append.1 hx with hx | hx
    · exact h6 x hx
    · obtain rfl : x = e := by simpa using hx
      exact h5
theorem tr_takeC {l : List Ent} (h : TR l) (n : Nat) : TR (l.take n) := ⟨rl_take h.1 n, fun x hx => h.2 x (List.mem_of_mem_take hx)⟩
theorem tr_no {l : List Ent} {k : Nat} (h : ¬ TR (l.take (k + 1))) : decide (TreeL l) = false := decide_eq_false fun hr => h (tr_takeC hr.2 _)
attribute [local go_sem ↓] old_ldi old_lds old_lde3
attribute [local go_sem] oldC_forall isC1_ptr isS1_ptr c1V_ptr isE3_ptr e3V_ptr
set_option maxRecDepth 10000 in
set_option maxHeartbeats 4000000 in
theorem tree10 (l : List Ent) (a : Option Addr) (cap : Nat) (w : World) (h : Ents w a cap l) (hs : Sm l) : Calls Tryz.prog 76 #[.slice a l.length cap] w fun e w' => e = .returned (.bool (decide (TreeL l))) ∧ Below w.heap.size w w' := by
  obtain ⟨R, hR⟩ : ∃ R, decide (TreeL l) = R := ⟨_, rfl⟩
  rw [hR]
  have HR := Lib.hid hR
  have hmm := @run_makeMap Tryz.prog
  have g64 : ¬ (1024 : Int) < (l.length : Int) := by have := hs.1; omega
  have hz : ∀ W, (zeroValue 160).run Tryz.prog W = .ok (.agg #[]) W := by intro W; kernel_rfl
  obtain ⟨m, hm⟩ : ∃ m, w.heap.size = m := ⟨_, rfl⟩
  have hb0 : Below w.heap.size w (w.alloc (.map #[] 0)) := (Below.refl _ _).alloc (Nat.le_refl _) _
  obtain ⟨V0, hV0⟩ : ∃ V0, w.alloc (.map #[] 0) = V0 := ⟨_, rfl⟩
  have hM0 : MapS Tryz.prog 9 V0 m 0 fun _ => none := by rw [← hV0, ← hm]; exact mapS_made Tryz.prog 9 w
  rw [hV0] at hb0
  obtain ⟨V, hput, hMV, hgV⟩ := hM0.put (t := 161) (e := 160) Tryz.underlying9 Tryz.underlying161 (by unfold maxLen; omega) (i := ⟨#[47]⟩) (by decide) (.agg #[])
  have HMV := Lib.hid (show MapS Tryz.prog 9 V m 1 (dset []) from hMV)
  have HBV := Lib.hid (show Below m w V by
    rw [hm] at hb0
    exact hb0.grown hgV (by rw [← hm]; exact hb0.size) fun j hj => by cases hj; exact Nat.le_refl _)
  have HME := Lib.hid hm
  have HE := Lib.hid h
  have HS := Lib.hid hs
  have HCAP := Lib.hid h.1
  rw [hm]
  clear h hs hR hb0 hM0 hMV hgV
  go_enter Tryz.func76, Tryz.ntmps76
  go_wp2
  go_loopg [19] l.length (fun g i wx => ∃ k : Nat, i = .int .i64 (k : Int) ∧ k + g = l.length ∧ Hid (TR (l.take k)) ∧ Hid (MapS Tryz.prog 9 wx m (k + 1) (dset (l.take k))) ∧ Hid (Below m w wx))
  case atStart => exact ⟨0, rfl, by omega, by simpa [Hid] using tr_nil, HMV.out, HBV.out⟩
  case round =>
    obtain ⟨k, rfl, hk, HI, HM, HB⟩ := hrel
    have hw : IntKind.i64.wrap ((k : Int) + 1) = (k : Int) + 1 := IntWalk.i64_in _ (by omega)
    by_cases hlt : k < l.length
    · have hlt' : (k : Int) < (l.length : Int) := by omega
      have hkc : (k : Int) ≤ (cap : Int) := by have := HCAP.out; omega
      obtain ⟨b, off, rfl, hb, hc⟩ := HE.out.at (show Below w.heap.size w wr by rw [HME.out]; exact HB.out) hlt
      have HEr := Lib.hid (RowN.below HE.out (show Below w.heap.size w wr by rw [HME.out]; exact HB.out))
      have HT := Lib.hid (take_get l k hlt)
      have HDS := Lib.hid (show dset (l.take (k + 1)) = if hd l[k] = true then fun z => if z = pl l[k] then some (.agg #[]) else dset (l.take k) z else dset (l.take k) by rw [take_get l k hlt, dset_snoc])
      have HZ := Lib.hid (HS.out.2 _ (List.getElem_mem hlt))
      have HLT := Lib.hid (fun j (hj : k = j + 1) => last_take9 hlt hj)
      have HNO := Lib.hid (fun h => tr_no (l := l) (k := k) h)
      obtain ⟨x, hx⟩ : ∃ x, l[k] = x := ⟨_, rfl⟩
      rw [hx] at hc HT HZ HDS
      have c0 := hc.c0
      have c1 := hc.c1
      have c2 := hc.c2
      obtain ⟨W, hW⟩ : ∃ W, wr.alloc (.cells #[.string x.1, .int .i64 x.2.1, .string x.2.2] 34) = W := ⟨_, rfl⟩
      obtain ⟨M, hM⟩ : ∃ M, wr.heap.size = M := ⟨_, rfl⟩
      have hbW : Below wr.heap.size wr W := by rw [← hW]; exact (Below.refl _ _).alloc (Nat.le_refl _) _
      have HMR := Lib.hid (show m ≤ wr.heap.size by have := HB.out.size; have := HME.out; omega)
      have HBW := Lib.hid (HB.out.trans (hbW.mono HMR.out))
      have HMW := Lib.hid (show m ≤ W.heap.size by have := hbW.size; have := HMR.out; omega)
      have HMP := Lib.hid (HM.out.below hbW)
      have HQ := Lib.hid (show EnAt W M x.1 x.2.1 x.2.2 by rw [← hW, ← hM]; exact enAt_new _ _ _ _)
      have HEW := Lib.hid (RowN.below HEr.out hbW)
      have q0 := HQ.out.c0
      have q1 := HQ.out.c1
      have q2 := HQ.out.c2
      have H1 : Hid (∀ w0 w', OldC w0 w' → Calls Tryz.prog 17 #[entV x.1 x.2.1 x.2.2] w' fun r w'' => r = .returned (.bool (rE x)) ∧ OldC w0 w'') := fun w0 w' hw' => by
        refine (right8 x.1 x.2.1 x.2.2 (by have := HZ.out; unfold maxLen; omega) w').mono ?_
        rintro r w'' ⟨rfl, hb⟩
        exact ⟨rfl, hw'.then hb⟩
      have H4 : Hid (∀ w0 w', OldC w0 w' → Calls Tryz.prog 105 #[entV x.1 x.2.1 x.2.2] w' fun r w'' => r = .returned (.bool (x.2.1 == 1 || x.2.1 == 2)) ∧ OldC w0 w'') := fun w0 w' hw' => by
        refine (plain10 x w').mono ?_
        rintro r w'' ⟨rfl, hb⟩
        exact ⟨rfl, hw'.then hb⟩
      have H2 : Hid (∀ y : Ent, ∀ w0 w', OldC w0 w' → Calls Tryz.prog 18 #[entV y.1 y.2.1 y.2.2, entV x.1 x.2.1 x.2.2] w' fun r w'' => r = .returned (.bool (lt8 (pl y) (pl x))) ∧ OldC w0 w'') := fun y w0 w' hw' => by
        refine (less8 y.1 x.1 y.2.2 x.2.2 y.2.1 x.2.1 w').mono ?_
        rintro r w'' ⟨rfl, hb⟩
        exact ⟨rfl, hw'.then hb⟩
      clear hc hx hb hbW
      cases hv : rE x with
      | false =>
        rw [hv] at H1
        have HX := Lib.hid (show R = false by
          rw [← HR.out]
          refine HNO.out fun h => ?_
          rw [HT.out, tr_snoc, hv] at h
          cases h.2.1)
        clear hv
        go_wp2_with fail
        refine wp_region_old (by kernel_rfl) (by kernel_rfl) ?_
        repeat (go_big_quiet_step ((first | (intro hw; with_reducible exact H1.out _ _ hw))))
        refine wpQuiet_nil ?_
        intro w3 hw3
        have HB3 := Lib.hid (show Below m w w3 from HBW.out.trans (Below.mono hw3 HMW.out))
        clear hw3
        go_wp2
        go_ret
        exact ⟨by rw [HX.out]; rfl, HB3.out⟩
      | true =>
        rw [hv] at H1
        have HVX := Lib.hid hv
        clear hv
        cases hpv : (x.2.1 == 1 || x.2.1 == 2) with
        | false =>
          rw [hpv] at H4
          have HX := Lib.hid (show R = false by
            rw [← HR.out]
            refine HNO.out fun h => ?_
            rw [HT.out, tr_snoc] at h
            have hk9 := kind_of HVX.out
            have h9 := h.2.2.1
            have : x.2.1 = 1 ∨ x.2.1 = 2 := by omega
            rcases this with h | h <;> rw [h] at hpv <;> cases hpv)
          clear hpv
          go_wp2_with fail
          refine wp_region_old (by kernel_rfl) (by kernel_rfl) ?_
          repeat (go_big_quiet_step ((first | (intro hw; with_reducible exact H1.out _ _ hw) | (intro hw; with_reducible exact H4.out _ _ hw))))
          refine wpQuiet_nil ?_
          intro w3 hw3
          have HB3 := Lib.hid (show Below m w w3 from HBW.out.trans (Below.mono hw3 HMW.out))
          clear hw3
          go_wp2
          go_ret
          exact ⟨by rw [HX.out]; rfl, HB3.out⟩
        | true =>
          rw [hpv] at H4
          have HK2 := Lib.hid (show x.2.1 ≤ 2 by
            rw [Bool.or_eq_true, beq_iff_eq, beq_iff_eq] at hpv
            omega)
          have HPX := Lib.hid (rE_isP HVX.out)
          clear hpv
          have called : (decide (0 < k) = false ∧ ∀ y, (l.take k).getLast? = some y → lt8 (pl y) (pl x) = true) ∨ (decide (0 < k) = true ∧ ∃ (j : Nat) (y : Ent), (k : Int) - 1 = (j : Int) ∧ (l.take k).getLast? = some y ∧ EnCells W b (off + j * 3) y ∧ (j : Int) < (l.length : Int)) := by
            by_cases h0 : 0 < k
            · refine .inr ⟨decide_eq_true h0, k - 1, l[k - 1]'(by omega), by omega, HLT.out (k - 1) (by omega), ?_, by omega⟩
              obtain ⟨b', off', e9, _, h9⟩ := Ents.at HEW.out (Below.refl _ _) (show k - 1 < l.length by omega)
              cases e9
              exact h9
            · refine .inl ⟨decide_eq_false h0, fun y hy => ?_⟩
              obtain rfl : k = 0 := by omega
              simp at hy
          rcases called with ⟨g0, hlast⟩ | ⟨g0, j, y, hj, hy, hcy, hjl⟩
          · have HLA := Lib.hid hlast
            clear hlast
            go_wp2_with fail
            refine wp_region_old (by kernel_rfl) (by kernel_rfl) ?_
            repeat (go_big_quiet_step ((first | (intro hw; with_reducible exact H1.out _ _ hw) | (intro hw; with_reducible exact H4.out _ _ hw))))
            refine wpQuiet_nil ?_
            intro w3 hw3
            have HB3 := Lib.hid (show Below m w w3 from HBW.out.trans (Below.mono hw3 HMW.out))
            have HM3 := Lib.hid (show m ≤ w3.heap.size from Nat.le_trans HMW.out (Below.size hw3))
            have HQ3 := Lib.hid (HQ.out.below hw3)
            replace HMP := Lib.hid (HMP.out.below hw3)
            clear hw3 q0 q1 q2 c0 c1 c2
            have q0 := HQ3.out.c0
            go_wp2_with fail
            refine (par10 x.1 HPX.out.1 _).mono ?_
            rintro r w4 ⟨d, nm, er, rfl, ho, hb⟩
            obtain ⟨h9, _⟩ | ⟨_, rfl, hd9⟩ := ho
            · exact absurd h9 HPX.out.2
            have HB4 := Lib.hid (HB3.out.trans (hb.mono HM3.out))
            have HM4 := Lib.hid (show m ≤ w4.heap.size from Nat.le_trans HM3.out hb.size)
            replace HMP := Lib.hid (HMP.out.below hb)
            replace HQ3 := Lib.hid (HQ3.out.below hb)
            clear q0 hb
            have hd54 := isP_len (par9_isP HPX.out.1 HPX.out.2).1
            rw [← hd9, ← Lib.size_eq] at hd54
            have hlk := (MapS.look HMP.out Tryz.underlying9 (t := 161) (e := 160) Tryz.underlying161 (hz w4) (i := d) (by unfold maxLen; omega)).2
            rw [hd9, dset_get, dset_in] at hlk
            clear hd9 hd54
            obtain ⟨U, hU⟩ : ∃ U, w4.alloc (.cells #[] 160) = U := ⟨_, rfl⟩
            have hbU : Below w4.heap.size w4 U := by rw [← hU]; exact (Below.refl _ _).alloc (Nat.le_refl _) _
            have HBU := Lib.hid (HB4.out.trans (hbU.mono HM4.out))
            have HMU := Lib.hid (show m ≤ U.heap.size from Nat.le_trans HM4.out hbU.size)
            replace HMP := Lib.hid (HMP.out.below hbU)
            replace HQ3 := Lib.hid (HQ3.out.below hbU)
            clear hbU
            by_cases hin : inD (l.take k) x
            · rw [decide_eq_true hin] at hlk
              have HN := Lib.hid (show TR (l.take (k + 1)) by rw [HT.out, tr_snoc]; exact ⟨HI.out, HVX.out, HK2.out, HLA.out, hin⟩)
              clear hin
              have q0 := HQ3.out.c0
              have q1 := HQ3.out.c1
              have q2 := HQ3.out.c2
              go_wp2_with fail
              refine (holds8 x.1 x.2.2 x.2.1 _).mono ?_
              rintro r w5 ⟨rfl, hb⟩
              have HB5 := Lib.hid (HBU.out.trans (hb.mono HMU.out))
              have HM5 := Lib.hid (show m ≤ w5.heap.size from Nat.le_trans HMU.out hb.size)
              replace HMP := Lib.hid (HMP.out.below hb)
              replace HQ3 := Lib.hid (HQ3.out.below hb)
              clear hb q0 q1 q2 hlk
              cases hh : (x.2.1 == 2 || x.2.1 == 4) with
              | false =>
                rw [if_neg (by show ¬ (x.2.1 == 2 || x.2.1 == 4) = true; rw [hh]; simp)] at HDS
                clear hh
                go_wp2
                go_roundg (gk - 1)
                case measure => omega
                case rel => exact ⟨k + 1, by simp, by omega, HN.out, by rw [HDS.out]; exact HMP.out.mono (Nat.le_succ _), HB5.out⟩
              | true =>
                rw [if_pos (by show (x.2.1 == 2 || x.2.1 == 4) = true; exact hh)] at HDS
                have q0 := HQ3.out.c0
                obtain ⟨w7, hput7, hm7, hg7⟩ := HMP.out.put (t := 161) (e := 160) Tryz.underlying9 Tryz.underlying161 (by have := HS.out.1; unfold maxLen; omega) (i := x.1) (by have := HZ.out; unfold maxLen; omega) (.agg #[])
                have HM7 := Lib.hid hm7
                have HB7 := Lib.hid (HB5.out.grown hg7 HM5.out fun j hj => by cases hj; exact Nat.le_refl _)
                clear hh hm7 hg7
                go_wp2
                go_roundg (gk - 1)
                case measure => omega
                case rel => exact ⟨k + 1, by simp, by omega, HN.out, by rw [HDS.out]; exact HM7.out, HB7.out⟩
            · rw [decide_eq_false hin] at hlk
              have HX := Lib.hid (show R = false by
                rw [← HR.out]
                refine HNO.out fun h => ?_
                rw [HT.out, tr_snoc] at h
                exact hin h.2.2.2.2)
              clear hin
              go_wp2
              go_ret
              exact ⟨by rw [HX.out]; rfl, HBU.out⟩
          · have y0 := hcy.c0
            have y1 := hcy.c1
            have y2 := hcy.c2
            have HY := Lib.hid hy
            have hwj : IntKind.i64.wrap (j : Int) = (j : Int) := IntWalk.i64_in _ (by omega)
            clear hcy hy
            cases hv : lt8 (pl y) (pl x) with
            | false =>
              have H2y := Lib.hid (H2.out y)
              rw [hv] at H2y
              have HX := Lib.hid (show R = false by
                rw [← HR.out]
                refine HNO.out fun h => ?_
                rw [HT.out, tr_snoc] at h
                have := h.2.2.2.1 y HY.out
                rw [hv] at this
                cases this)
              clear hv
              go_wp2_with fail
              refine wp_region_old (by kernel_rfl) (by kernel_rfl) ?_
              repeat (go_big_quiet_step ((first | (intro hw; with_reducible exact H1.out _ _ hw) | (intro hw; with_reducible exact H4.out _ _ hw) | (intro hw; with_reducible exact H2y.out _ _ hw))))
              refine wpQuiet_nil ?_
              intro w3 hw3
              have HB3 := Lib.hid (show Below m w w3 from HBW.out.trans (Below.mono hw3 HMW.out))
              clear hw3
              go_wp2
              go_ret
              exact ⟨by rw [HX.out]; rfl, HB3.out⟩
            | true =>
              have H2y := Lib.hid (H2.out y)
              rw [hv] at H2y
              have HLA := Lib.hid (show ∀ z, (l.take k).getLast? = some z → lt8 (pl z) (pl x) = true from fun z hz => by
                have := HY.out.symm.trans hz
                cases this
                exact hv)
              clear hv
              go_wp2_with fail
              refine wp_region_old (by kernel_rfl) (by kernel_rfl) ?_
              repeat (go_big_quiet_step ((first | (intro hw; with_reducible exact H1.out _ _ hw) | (intro hw; with_reducible exact H4.out _ _ hw) | (intro hw; with_reducible exact H2y.out _ _ hw))))
              refine wpQuiet_nil ?_
              intro w3 hw3
              clear y0 y1 y2
              have HB3 := Lib.hid (show Below m w w3 from HBW.out.trans (Below.mono hw3 HMW.out))
              have HM3 := Lib.hid (show m ≤ w3.heap.size from Nat.le_trans HMW.out (Below.size hw3))
              have HQ3 := Lib.hid (HQ.out.below hw3)
              replace HMP := Lib.hid (HMP.out.below hw3)
              clear hw3 q0 q1 q2 c0 c1 c2
              have q0 := HQ3.out.c0
              go_wp2_with fail
              refine (par10 x.1 HPX.out.1 _).mono ?_
              rintro r w4 ⟨d, nm, er, rfl, ho, hb⟩
              obtain ⟨h9, _⟩ | ⟨_, rfl, hd9⟩ := ho
              · exact absurd h9 HPX.out.2
              have HB4 := Lib.hid (HB3.out.trans (hb.mono HM3.out))
              have HM4 := Lib.hid (show m ≤ w4.heap.size from Nat.le_trans HM3.out hb.size)
              replace HMP := Lib.hid (HMP.out.below hb)
              replace HQ3 := Lib.hid (HQ3.out.below hb)
              clear q0 hb
              have hd54 := isP_len (par9_isP HPX.out.1 HPX.out.2).1
              rw [← hd9, ← Lib.size_eq] at hd54
              have hlk := (MapS.look HMP.out Tryz.underlying9 (t := 161) (e := 160) Tryz.underlying161 (hz w4) (i := d) (by unfold maxLen; omega)).2
              rw [hd9, dset_get, dset_in] at hlk
              clear hd9 hd54
              obtain ⟨U, hU⟩ : ∃ U, w4.alloc (.cells #[] 160) = U := ⟨_, rfl⟩
              have hbU : Below w4.heap.size w4 U := by rw [← hU]; exact (Below.refl _ _).alloc (Nat.le_refl _) _
              have HBU := Lib.hid (HB4.out.trans (hbU.mono HM4.out))
              have HMU := Lib.hid (show m ≤ U.heap.size from Nat.le_trans HM4.out hbU.size)
              replace HMP := Lib.hid (HMP.out.below hbU)
              replace HQ3 := Lib.hid (HQ3.out.below hbU)
              clear hbU
              by_cases hin : inD (l.take k) x
              · rw [decide_eq_true hin] at hlk
                have HN := Lib.hid (show TR (l.take (k + 1)) by rw [HT.out, tr_snoc]; exact ⟨HI.out, HVX.out, HK2.out, HLA.out, hin⟩)
                clear hin
                have q0 := HQ3.out.c0
                have q1 := HQ3.out.c1
                have q2 := HQ3.out.c2
                go_wp2_with fail
                refine (holds8 x.1 x.2.2 x.2.1 _).mono ?_
                rintro r w5 ⟨rfl, hb⟩
                have HB5 := Lib.hid (HBU.out.trans (hb.mono HMU.out))
                have HM5 := Lib.hid (show m ≤ w5.heap.size from Nat.le_trans HMU.out hb.size)
                replace HMP := Lib.hid (HMP.out.below hb)
                replace HQ3 := Lib.hid (HQ3.out.below hb)
                clear hb q0 q1 q2 hlk
                cases hh : (x.2.1 == 2 || x.2.1 == 4) with
                | false =>
                  rw [if_neg (by show ¬ (x.2.1 == 2 || x.2.1 == 4) = true; rw [hh]; simp)] at HDS
                  clear hh
                  go_wp2
                  go_roundg (gk - 1)
                  case measure => omega
                  case rel => exact ⟨k + 1, by simp, by omega, HN.out, by rw [HDS.out]; exact HMP.out.mono (Nat.le_succ _), HB5.out⟩
                | true =>
                  rw [if_pos (by show (x.2.1 == 2 || x.2.1 == 4) = true; exact hh)] at HDS
                  have q0 := HQ3.out.c0
                  obtain ⟨w7, hput7, hm7, hg7⟩ := HMP.out.put (t := 161) (e := 160) Tryz.underlying9 Tryz.underlying161 (by have := HS.out.1; unfold maxLen; omega) (i := x.1) (by have := HZ.out; unfold maxLen; omega) (.agg #[])
                  have HM7 := Lib.hid hm7
                  have HB7 := Lib.hid (HB5.out.grown hg7 HM5.out fun j hj => by cases hj; exact Nat.le_refl _)
                  clear hh hm7 hg7
                  go_wp2
                  go_roundg (gk - 1)
                  case measure => omega
                  case rel => exact ⟨k + 1, by simp, by omega, HN.out, by rw [HDS.out]; exact HM7.out, HB7.out⟩
              · rw [decide_eq_false hin] at hlk
                have HX := Lib.hid (show R = false by
                  rw [← HR.out]
                  refine HNO.out fun h => ?_
                  rw [HT.out, tr_snoc] at h
                  exact hin h.2.2.2.2)
                clear hin
                go_wp2
                go_ret
                exact ⟨by rw [HX.out]; rfl, HBU.out⟩
    · have hlt' : ¬ (k : Int) < (l.length : Int) := by omega
      have HX := Lib.hid (show R = true by
        rw [← HR.out]
        have := HI.out
        rw [List.take_of_length_le (by omega)] at this
        exact decide_eq_true ⟨by have := HS.out.1; omega, this⟩)
      go_wp2
      go_ret
      exact ⟨by rw [HX.out]; rfl, HB.out⟩
end Go.Proofs.YtlncdmdffpaojaaGreatDoor

namespace Go.Proofs.YtlncdmdffpaojaaGreatDoor
open Go.RowKit

def ovV (t l : List Ent) : List Ent := if TreeL t ∧ RightL l ∧ (over t l).length ≤ 1024 then over t l else []
def stV (S : List (List Ent)) : List Ent := if S.length ≤ 9 ∧ ∀ l ∈ S, RightL l then stk S else []
/-- What was there when the call began is as it was. -/
structure St10 (W w : World) : Prop where
  below : Below W.heap.size W w
  env : Env w
theorem st10_self {w : World} (h : Env w) : St10 w w := ⟨Below.refl _ _, h⟩
theorem St10.next {W w w' : World} (h : St10 W w) (hb : Below w.heap.size w w') : St10 W w' := ⟨h.below.trans (hb.mono h.below.size), h.env.below hb⟩
theorem St10.old {W w w' : World} (h : St10 W w) (hb : OldC w w') : St10 W w' := h.next hb
theorem sm_tr {t : List Ent} (h : TR t) (hl : t.length ≤ 1000) : Sm t := ⟨hl, fun e he => by
  obtain ⟨h1, _, _, h4, _⟩ := rightE_parts (h.1.1 e he)
  have h54 := isP_len (isP_of_dp h1)
  rw [← Lib.size_eq] at h54
  omega⟩
theorem stV_tree (S : List (List Ent)) : TR (stV S) ∧ (stV S).length ≤ 576 := by
  unfold stV
  split
  · rename_i h
    have h1 := stk_len h.2
    exact ⟨tr_stk h.2, by have := h.1; omega⟩
  · exact ⟨tr_nil, by simp⟩
theorem stV_sm (S : List (List Ent)) : Sm (stV S) := sm_tr (stV_tree S).1 (by have := (stV_tree S).2; omega)
theorem ovV_tree {t l : List Ent} (ht : TR t) : TR (ovV t l) := by
  unfold ovV
  split
  · rename_i h
    exact tr_over ht h.2.1.2
  · exact tr_nil
end Go.Proofs.YtlncdmdffpaojaaGreatDoor

namespace Go.Proofs.YtlncdmdffpaojaaGreatDoor
open Go.RowKit

/-- Does an entry of a tree go when a layer is laid over it? -/
def goes (l : List Ent) (x : Ent) : Bool := l.any fun e => decide (pl x = pl e) || (e.2.1 != 2 && und (pl x) (pl e))
/-- What stays of a tree. -/
def kept (t l : List Ent) : List Ent := t.filter fun x => !goes l x
/-- What a layer shows of its own. -/
def news (l : List Ent) : List Ent := (l.filter fun e => e.2.1 != 3).map sh
theorem goes_false {l : List Ent} {x : Ent} : goes l x = false ↔ ∀ e ∈ l, pl x ≠ pl e ∧ (e.2.1 ≠ 2 → und (pl x) (pl e) = false) := by
  unfold goes
  rw [List.any_eq_false]
  constructor
  · intro h e he
    have h1 := h e he
    rw [Bool.or_eq_true, decide_eq_true_iff, Bool.and_eq_true, bne_iff_ne] at h1
    refine ⟨fun h2 => h1 (.inl h2), fun h2 => ?_⟩
    cases hu : und (pl x) (pl e) with
    | false => rfl
    | true => exact absurd (.inr ⟨h2, hu⟩) h1
  · intro h e he h1
    rw [Bool.or_eq_true, decide_eq_true_iff, Bool.and_eq_true, bne_iff_ne] at h1
    rcases h1 with h1 | ⟨h1, h2⟩
    · exact (h e he).1 h1
    · rw [(h e he).2 h1] at h2
      cases h2
theorem mem_pile {t l : List Ent} {x : Ent} : x ∈ kept t l ++ news l ↔ (∃ e ∈ l, e.2.1 ≠ 3 ∧ x = sh e) ∨ (x ∈ t ∧ ∀ e ∈ l, pl x ≠ pl e ∧ (e.2.1 ≠ 2 → und (pl x) (pl e) = false)) := by
  unfold kept news
  rw [List.mem_append, List.mem_filter, List.mem_map, ← goes_false]
  constructor
  · rintro (⟨h1, h2⟩ | ⟨e, he, rfl⟩)
    · exact .inr ⟨h1, by simpa using h2⟩
    · obtain ⟨h3, h4⟩ := List.mem_filter.1 he
      exact .inl ⟨e, h3, by simpa using h4, rfl⟩
  · rintro (⟨e, he, h1, rfl⟩ | ⟨h1, h2⟩)
    · exact .inr ⟨e, List.mem_filter.2 ⟨he, by simpa using h1⟩, rfl⟩
    · exact .inl ⟨h1, by rw [h2]; rfl⟩
theorem pile_ne {t l : List Ent} (ht : Asc t) (hl : Asc l) : (kept t l ++ news l).Pairwise fun a b => pl a ≠ pl b := by
  rw [List.pairwise_append]
  refine ⟨?_, ?_, ?_⟩
  · exact (List.Pairwise.filter _ ht).imp fun h => lt8_ne h
  · unfold news
    rw [List.pairwise_map]
    exact (List.Pairwise.filter _ hl).imp fun h => by rw [pl_sh, pl_sh]; exact lt8_ne h
  · intro a ha b hb
    obtain ⟨_, h2⟩ := List.mem_filter.1 ha
    unfold news at hb
    obtain ⟨e, he, rfl⟩ := List.mem_map.1 hb
    rw [pl_sh]
    exact (goes_false.1 (by simpa using h2) e (List.mem_filter.1 he).1).1
theorem pile_len (t l : List Ent) : (kept t l ++ news l).length ≤ t.length + l.length := by
  unfold kept news
  rw [List.length_append, List.length_map]
  have h1 := List.length_filter_le (fun x => !goes l x) t
  have h2 := List.length_filter_le (fun e : Ent => e.2.1 != 3) l
  omega
/-- What is there, sorted by its paths, is what the layer laid over the tree comes to. -/
theorem pile_sorted {t l c : List Ent} (ht : Asc t) (hl : Asc l) (hr : ∀ e ∈ l, rE e = true) (hp : c.Perm (kept t l ++ news l)) (hs : c.Pairwise fun a b => lt8 (pl b) (pl a) = false) : c = over t l := by
  have hne : c.Pairwise fun a b => pl a ≠ pl b := (hp.pairwise_iff fun h => Ne.symm h).2 (pile_ne ht hl)
  have hA : Asc c := (hs.and hne).imp fun ⟨h1, h2⟩ => by
    rcases lt8_tri _ _ with h | h | h
    · exact absurd h h2
    · exact h
    · rw [h1] at h
      cases h
  refine asc_ext hA (asc_over ht) fun x => ?_
  rw [hp.mem_iff, mem_pile, mem_over hr hl]
theorem kept_snoc (t l : List Ent) (x : Ent) : kept (t ++ [x]) l = if goes l x = true then kept t l else kept t l ++ [x] := by
  unfold kept
  rw [List.filter_append]
  cases h : goes l x <;> simp [h]
theorem news_snoc (l : List Ent) (x : Ent) : news (l ++ [x]) = if x.2.1 = 3 then news l else news l ++ [sh x] := by
  unfold news
  rw [List.filter_append, List.map_append]
  by_cases h : x.2.1 = 3
  · simp [h]
  · simp [h]
end Go.Proofs.YtlncdmdffpaojaaGreatDoor

namespace Go.Proofs.YtlncdmdffpaojaaGreatDoor
open Go.RowKit

/-- What a layer's map has. -/
def kd (l : List Ent) : List UInt8 → Option Value := l.foldl (fun f e => fun x => if x = pl e then some (.int .i64 e.2.1) else f x) fun _ => none
theorem kd_snoc (l : List Ent) (e : Ent) : kd (l ++ [e]) = fun x => if x = pl e then some (.int .i64 e.2.1) else kd l x := by unfold kd; rw [List.foldl_append]; rfl
theorem kd_fnd {l : List Ent} (h : Asc l) (p : List UInt8) : kd l p = (fnd l p).map fun e => .int .i64 e.2.1 := by
  have key : ∀ n (l : List Ent), l.length = n → Asc l → kd l p = (fnd l p).map fun e => .int .i64 e.2.1 := by
    intro n
    induction n with
    | zero => intro l hl _; rw [List.length_eq_zero_iff.1 hl]; rfl
    | succ n ih =>
      intro l hl hA
      rcases List.eq_nil_or_concat l with rfl | ⟨r, e, rfl⟩
      · simp at hl
      · rw [List.concat_eq_append] at *
        obtain ⟨h1, h2⟩ := asc_snoc.1 hA
        rw [kd_snoc]
        show (if p = pl e then some (.int .i64 e.2.1) else kd r p) = _
        rw [ih r (by simpa using hl) h1]
        by_cases hp : p = pl e
        · simp only [if_pos hp]
          rw [(fnd_some hA).2 ⟨by simp, hp.symm⟩]
          rfl
        · simp only [if_neg hp]
          congr 1
          unfold fnd
          rw [List.find?_append, List.find?_cons_of_neg (by simpa using fun h => hp h.symm)]
          simp
  exact key _ l rfl h
/-- Is a path, or one above it, that of an entry that lets nothing through? -/
def gup (l : List Ent) (p : List UInt8) : Bool := l.any fun e => e.2.1 != 2 && (decide (p = pl e) || und p (pl e))
/-- Is it the path itself? -/
def gat (l : List Ent) (p : List UInt8) : Bool := match fnd l p with
  | some e => e.2.1 != 2
  | none => false
theorem gup_any {l : List Ent} {p : List UInt8} (f : Ent → Bool) (h : ∀ e ∈ l, (e.2.1 != 2 && (decide (p = pl e) || und p (pl e))) = f e) : gup l p = l.any f := by
  unfold gup
  rw [Bool.eq_iff_iff, List.any_eq_true, List.any_eq_true]
  exact ⟨fun ⟨e, h1, h2⟩ => ⟨e, h1, by rw [← h e h1]; exact h2⟩, fun ⟨e, h1, h2⟩ => ⟨e, h1, by rw [h e h1]; exact h2⟩⟩
theorem gat_any {l : List Ent} (hA : Asc l) (p : List UInt8) : gat l p = l.any fun e => e.2.1 != 2 && decide (p = pl e) := by
  unfold gat
  cases hf : fnd l p with
  | none =>
    have := fnd_none.1 hf
    rw [eq_comm, List.any_eq_false]
    intro e he h
    rw [Bool.and_eq_true, decide_eq_true_iff] at h
    exact this e he h.2.symm
  | some e =>
    obtain ⟨h1, h2⟩ := (fnd_some hA).1 hf
    show (e.2.1 != 2) = _
    rw [Bool.eq_iff_iff, List.any_eq_true]
    constructor
    · intro h
      exact ⟨e, h1, by rw [h, decide_eq_true h2.symm]; rfl⟩
    · rintro ⟨x, h3, h4⟩
      rw [Bool.and_eq_true, decide_eq_true_iff] at h4
      obtain rfl := asc_inj hA h1 h3 (h2.trans h4.2)
      exact h4.1
theorem any_or {α : Type} (l : List α) (f g : α → Bool) : (l.any fun e => f e || g e) = (l.any f || l.any g) := by
  induction l with
  | nil => rfl
  | cons x r ih => simp only [List.any_cons, ih]; cases f x <;> cases g x <;> simp
theorem gup_step {l : List Ent} (hA : Asc l) {p : List UInt8} (hp : isP p) (h1 : p ≠ [47]) : gup l p = (gat l p || gup l (par9 p)) := by
  rw [gat_any hA]
  unfold gup
  rw [← any_or]
  congr 1
  funext e
  rw [und_par9 hp h1, show decide (pl e = par9 p) = decide (par9 p = pl e) from by rw [decide_eq_decide]; exact eq_comm]
  cases e.2.1 != 2 <;> simp
theorem root_und (q : List UInt8) : und [47] q = false := by
  cases h : und [47] q with
  | false => rfl
  | true =>
    obtain ⟨h1, h2⟩ := und_longer h
    have h3 : isP q := by
      unfold und at h
      exact (of_decide_eq_true h).2.1
    have := h3.1
    cases q with
    | nil => simp at this
    | cons c r => simp at h2
theorem gup_root {l : List Ent} (hr : ∀ e ∈ l, rE e = true) : gup l [47] = false ∧ gat l [47] = false := by
  refine ⟨?_, ?_⟩
  · unfold gup
    rw [List.any_eq_false]
    intro e he h
    rw [root_und, Bool.or_false, Bool.and_eq_true, decide_eq_true_iff] at h
    exact (rE_isP (hr e he)).2 h.2.symm
  · unfold gat
    rw [fnd_none.2 fun e he => (rE_isP (hr e he)).2]
theorem goes_gup {l : List Ent} {x : Ent} (hx : rE x = true) : goes l x = ((fnd l (pl x)).isSome || gup l (par9 (pl x))) := by
  obtain ⟨p1, p2⟩ := rE_isP hx
  have h1 : (fnd l (pl x)).isSome = l.any fun e => decide (pl x = pl e) := by
    unfold fnd
    rw [Bool.eq_iff_iff, List.find?_isSome, List.any_eq_true]
    constructor
    · rintro ⟨e, h1, h2⟩
      exact ⟨e, h1, by simpa using (by simpa using h2 : pl e = pl x).symm⟩
    · rintro ⟨e, h1, h2⟩
      exact ⟨e, h1, by simpa using (by simpa using h2 : pl x = pl e).symm⟩
  rw [h1]
  unfold goes gup
  rw [← any_or]
  congr 1
  funext e
  rw [und_par9 p1 p2, show decide (pl e = par9 (pl x)) = decide (par9 (pl x) = pl e) from by rw [decide_eq_decide]; exact eq_comm]
end Go.Proofs.YtlncdmdffpaojaaGreatDoor

namespace Go.Proofs.YtlncdmdffpaojaaGreatDoor
open Go.RowKit Go.Maps

/-- The map that a closure of gone's holds. -/
structure GoneAt (w : World) (B P : Nat) (l : List Ent) : Prop where
  low : B ≤ P ∧ P < w.heap.size
  cell : ∃ m n, w.cell? ⟨P, 0, none⟩ = some (.map (some m)) ∧ MapS Tryz.prog 9 w m n (kd l)
theorem GoneAt.below {w w' : World} {B P : Nat} {l : List Ent} (h : GoneAt w B P l) (hb : Below w.heap.size w w') : GoneAt w' B P l := by
  obtain ⟨h1, m, n, h2, h3⟩ := h
  exact ⟨⟨h1.1, Nat.lt_of_lt_of_le h1.2 hb.size⟩, m, n, (hb.cell (p := ⟨P, 0, none⟩) h1.2).trans h2, h3.below hb⟩
theorem take_sn {α : Type} (l : List α) (k : Nat) (h : k < l.length) : l.take (k + 1) = l.take k ++ [l[k]] := by rw [List.take_add_one, List.getElem?_eq_getElem h]; rfl
set_option maxRecDepth 10000 in
set_option maxHeartbeats 2000000 in
theorem gone10 (l : List Ent) (a : Option Addr) (cap : Nat) (w : World) (h : Ents w a cap l) (hs : Sm l) :
    Calls Tryz.prog 38 #[.slice a l.length cap] w fun e w' => ∃ P, e = .returned (.func (.func 65) #[] #[.pointer (some ⟨P, 0, none⟩)]) ∧ GoneAt w' w.heap.size P l ∧ Below w.heap.size w w' := by
  have hmm := @run_makeMap Tryz.prog
  obtain ⟨m, hm⟩ : ∃ m, w.heap.size = m := ⟨_, rfl⟩
  obtain ⟨V, hV⟩ : ∃ V, (w.alloc (.map #[] 0)).alloc (.cells #[.map (some m)] 111) = V := ⟨_, rfl⟩
  have hb0 : Below w.heap.size w (w.alloc (.map #[] 0)) := (Below.refl _ _).alloc (Nat.le_refl _) _
  have hb1 : Below (w.alloc (.map #[] 0)).heap.size (w.alloc (.map #[] 0)) V := by rw [← hV]; exact (Below.refl _ _).alloc (Nat.le_refl _) _
  have HBV := Lib.hid (hb0.trans (hb1.mono hb0.size))
  have HMV := Lib.hid ((mapS_made Tryz.prog 9 w).below hb1)
  have HCP := Lib.hid (show V.cell? ⟨m + 1, 0, none⟩ = some (.map (some m)) by rw [← hV, ← hm]; simp)
  have HLT := Lib.hid (show w.heap.size = m ∧ m + 1 < V.heap.size by rw [← hV]; simp; omega)
  have HE := Lib.hid h
  have HS := Lib.hid hs
  have HCAP := Lib.hid h.1
  rw [hm] at HMV HBV ⊢
  clear h hs hb0 hb1
  go_enter Tryz.func38, Tryz.ntmps38
  go_wp2
  go_loopg [9] l.length (fun g i wx => ∃ k : Nat, i = .int .i64 (k : Int) ∧ k + g = l.length ∧ Hid (wx.cell? ⟨m + 1, 0, none⟩ = some (.map (some m)) ∧ V.heap.size ≤ wx.heap.size) ∧ Hid (MapS Tryz.prog 9 wx m k (kd (l.take k))) ∧ Hid (Below m w wx))
  case atStart => exact ⟨0, rfl, by omega, ⟨HCP.out, Nat.le_refl _⟩, HMV.out, HBV.out⟩
  case round =>
    obtain ⟨k, rfl, hk, HC, HM, HB⟩ := hrel
    have hw : IntKind.i64.wrap ((k : Int) + 1) = (k : Int) + 1 := IntWalk.i64_in _ (by have := HS.out.1; omega)
    by_cases hlt : k < l.length
    · have hlt' : (k : Int) < (l.length : Int) := by omega
      obtain ⟨b, off, rfl, hb, hc⟩ := HE.out.at (show Below w.heap.size w wr by rw [HLT.out.1]; exact HB.out) hlt
      have HN := Lib.hid (show kd (l.take (k + 1)) = fun z => if z = pl l[k] then some (.int .i64 l[k].2.1) else kd (l.take k) z by rw [take_sn l k hlt, kd_snoc])
      have HZ := Lib.hid (HS.out.2 _ (List.getElem_mem hlt))
      obtain ⟨x, hx⟩ : ∃ x, l[k] = x := ⟨_, rfl⟩
      rw [hx] at hc HN HZ
      have c0 := hc.c0
      have c1 := hc.c1
      have c2 := hc.c2
      obtain ⟨W, hW⟩ : ∃ W, wr.alloc (.cells #[.string x.1, .int .i64 x.2.1, .string x.2.2] 34) = W := ⟨_, rfl⟩
      obtain ⟨M, hM⟩ : ∃ M, wr.heap.size = M := ⟨_, rfl⟩
      have hbW : Below wr.heap.size wr W := by rw [← hW]; exact (Below.refl _ _).alloc (Nat.le_refl _) _
      have hq : EnAt W M x.1 x.2.1 x.2.2 := by rw [← hW, ← hM]; exact enAt_new _ _ _ _
      have q0 := hq.c0
      have q1 := hq.c1
      have hcW : W.cell? ⟨m + 1, 0, none⟩ = some (.map (some m)) := (hbW.cell (p := ⟨m + 1, 0, none⟩) (show m + 1 < wr.heap.size by have := HC.out.2; have := HLT.out; omega)).trans HC.out.1
      obtain ⟨w7, hput, hm7, hg7⟩ := (HM.out.below hbW).put (t := 111) (e := 3) Tryz.underlying9 Tryz.underlying111 (by have := HS.out.1; unfold maxLen; omega) (i := x.1) (by have := HZ.out; unfold maxLen; omega) (.int .i64 x.2.1)
      have HM7 := Lib.hid hm7
      have HBW := Lib.hid ((HB.out.trans (hbW.mono (by have := HB.out.size; have := HLT.out; omega))).grown hg7 (by have := HB.out.size; have := hbW.size; have := HLT.out; omega) fun j hj => by cases hj; exact Nat.le_refl _)
      have HC7 := Lib.hid (show w7.cell? ⟨m + 1, 0, none⟩ = some (.map (some m)) ∧ V.heap.size ≤ w7.heap.size from ⟨by
        rw [← hcW]
        exact World.cell?_of_block (hg7.block (m + 1) (by have := hbW.size; have := HC.out.2; have := HLT.out; omega) (by intro e; have := Option.some.inj e; omega)), by have := hg7.size; have := hbW.size; have := HC.out.2; omega⟩)
      clear hc hx hb hbW hq hm7 hg7
      go_wp2
      go_roundg (gk - 1)
      case measure => omega
      case rel => exact ⟨k + 1, by simp, by omega, HC7.out, by rw [HN.out]; exact HM7.out, HBW.out⟩
    · have hlt' : ¬ (k : Int) < (l.length : Int) := by omega
      have HV := Lib.hid (show l.take k = l from List.take_of_length_le (by omega))
      go_wp2
      go_ret
      exact ⟨m + 1, rfl, ⟨⟨by have := HLT.out; omega, by have := HC.out.2; have := HLT.out; omega⟩, m, k, HC.out.1, by rw [← HV.out]; exact HM.out⟩, HB.out⟩
end Go.Proofs.YtlncdmdffpaojaaGreatDoor

namespace Go.Proofs.YtlncdmdffpaojaaGreatDoor
open Go.RowKit Go.Maps

set_option maxRecDepth 10000 in
set_option maxHeartbeats 2000000 in
theorem gclo10 (l : List Ent) (B P : Nat) (x : Ent) (w : World) (hg : GoneAt w B P l) (hA : Asc l) (hr : ∀ e ∈ l, rE e = true) (hx : rE x = true) :
    Calls Tryz.prog 65 (#[enV x] ++ #[.pointer (some ⟨P, 0, none⟩)]) w fun e w' => e = .returned (.bool (goes l x)) ∧ Below w.heap.size w w' := by
  obtain ⟨p1, p2⟩ := rE_isP hx
  have h54 := isP_len p1
  rw [← Lib.size_eq] at h54
  have HPP := Lib.hid (par9_isP p1 p2)
  have HP1 := Lib.hid p1
  have HP2 := Lib.hid p2
  have HA := Lib.hid hA
  have HR := Lib.hid hr
  obtain ⟨W, hW⟩ : ∃ W, w.alloc (.cells #[.string x.1, .int .i64 x.2.1, .string x.2.2] 34) = W := ⟨_, rfl⟩
  obtain ⟨N, hN⟩ : ∃ N, w.heap.size = N := ⟨_, rfl⟩
  have hb0 : Below w.heap.size w W := by rw [← hW]; exact (Below.refl _ _).alloc (Nat.le_refl _) _
  have hq : EnAt W N x.1 x.2.1 x.2.2 := by rw [← hW, ← hN]; exact enAt_new _ _ _ _
  have q0 := hq.c0
  have HB0 := Lib.hid hb0
  have HQ := Lib.hid hq
  have HG := Lib.hid (hg.below hb0)
  obtain ⟨m, n, hc, hm⟩ := HG.out.cell
  have hz : ∀ W, (zeroValue 3).run Tryz.prog W = .ok (.int .i64 0) W := by intro W; kernel_rfl
  have HLK := Lib.hid (fun (W' : World) (hb : Below W.heap.size W W') (s : ByteArray) (hs : s.size ≤ 100000) => (MapS.look (hm.below hb) Tryz.underlying9 (t := 111) (e := 3) Tryz.underlying111 (hz W') (i := s) (by unfold maxLen; omega)).2)
  have HCE := Lib.hid (fun (W' : World) (hb : Below W.heap.size W W') => (hb.cell (p := ⟨P, 0, none⟩) HG.out.low.2).trans hc)
  have hcP := HCE.out W (Below.refl _ _)
  have hlk := HLK.out W (Below.refl _ _) x.1 (by omega)
  rw [kd_fnd hA] at hlk
  obtain ⟨kv, hkv⟩ : ∃ kv, ((fnd l x.1.data.toList).map fun e => Value.int .i64 e.2.1).getD (.int .i64 0) = kv := ⟨_, rfl⟩
  obtain ⟨g0, hg0⟩ : ∃ g0, ((fnd l x.1.data.toList).map fun e => Value.int .i64 e.2.1).isSome = g0 := ⟨_, rfl⟩
  rw [hkv, hg0] at hlk
  have HGO := Lib.hid (show goes l x = (g0 || gup l (par9 (pl x))) by rw [goes_gup hx, ← hg0, Option.isSome_map])
  have HGU := Lib.hid (fun (p : List UInt8) (hp : isP p) (h1 : p ≠ [47]) => gup_step (l := l) hA hp h1)
  have HGR := Lib.hid (gup_root hr)
  have HGA := Lib.hid (fun p => kd_fnd hA p)
  obtain ⟨R, hR⟩ : ∃ R, goes l x = R := ⟨_, rfl⟩
  rw [hR] at HGO ⊢
  clear hg hA hr hx p1 p2 hb0 hq hm hc h54 hkv hg0 hR
  go_enter Tryz.func65, Tryz.ntmps65
  go_wp2_with fail
  refine (par10 x.1 HP1.out _).mono ?_
  rintro e w1 ⟨d, nm1, er, rfl, ho, hb⟩
  obtain ⟨h9, _⟩ | ⟨_, rfl, hd⟩ := ho
  · exact absurd h9 HP2.out
  have HB1 := Lib.hid (HB0.out.trans (hb.mono HB0.out.size))
  have HW1 := Lib.hid hb
  have HD := Lib.hid hd
  clear hb hd q0 hcP hlk
  go_wp2
  go_loopg [5, 6, 8] 55 (fun g s5 s6 s8 wr => ∃ (gv : Bool) (p : ByteArray), s5 = .bool gv ∧ s6 = .string p ∧ Hid (Below w.heap.size w wr) ∧ Hid (Below W.heap.size W wr) ∧ ((s8 = .nilIface ∧ p.size + 1 ≤ g ∧ p.size ≤ 54 ∧ Hid (isP p.data.toList ∧ R = (gv || gup l p.data.toList))) ∨ (∃ u y, s8 = .iface u y ∧ Hid (R = gv))))
  case atStart =>
    have h1 := HPP.out
    rw [← HD.out] at h1
    have h2 := isP_len h1.1
    rw [← Lib.size_eq] at h2
    exact ⟨g0, d, rfl, rfl, HB1.out, HW1.out, .inl ⟨rfl, by omega, by omega, h1.1, by rw [HGO.out, HD.out]⟩⟩
  case round =>
    obtain ⟨gv, p, rfl, rfl, HB, HW, ⟨rfl, hpg, hp54, HI⟩ | ⟨u, y, rfl, HI⟩⟩ := hrel
    · cases gv with
      | true =>
        go_wp2
        go_ret
        exact ⟨by rw [HI.out.2]; rfl, HB.out⟩
      | false =>
        have hcP := HCE.out wr HW.out
        have hlk := HLK.out wr HW.out p (by omega)
        rw [HGA.out p.data.toList] at hlk
        have HIR := Lib.hid (show R = gup l p.data.toList by rw [HI.out.2, Bool.false_or])
        cases hf : fnd l p.data.toList with
        | none =>
          rw [hf] at hlk
          have HT := Lib.hid (show gat l p.data.toList = false by unfold gat; rw [hf])
          simp only [Option.map_none, Option.getD_none, Option.isSome_none] at hlk
          clear hf
          go_wp2_with fail
          refine (par10 p HI.out.1 _).mono ?_
          rintro r w2 ⟨d2, nm2, er, rfl, ho, hb⟩
          have HB2 := Lib.hid (HB.out.trans (hb.mono HB.out.size))
          have HW2 := Lib.hid (HW.out.trans (hb.mono HW.out.size))
          clear hb hcP hlk
          rcases ho with ⟨h9, u, y, rfl⟩ | ⟨h9, rfl, hd2⟩
          · have HV := Lib.hid (show R = false by
              have h1 := HGR.out
              rw [← h9] at h1
              rw [HIR.out, h1.1, ← HT.out, h1.2])
            clear h9
            go_wp2
            go_roundg 0
            case measure => omega
            case rel => exact ⟨false, d2, by simp, rfl, HB2.out, HW2.out, .inr ⟨u, y, rfl, HV.out⟩⟩
          · have HV := Lib.hid (show isP d2.data.toList ∧ R = (false || gup l d2.data.toList) by
              rw [hd2]
              exact ⟨(par9_isP HI.out.1 h9).1, by rw [HIR.out, HGU.out _ HI.out.1 h9, HT.out]⟩)
            have HS := Lib.hid (show d2.size < p.size by
              rw [Lib.size_eq, Lib.size_eq, hd2]
              exact (par9_isP HI.out.1 h9).2)
            clear h9 hd2
            go_wp2
            go_roundg (gk - 1)
            case measure => have := HS.out; omega
            case rel => exact ⟨false, d2, by simp, rfl, HB2.out, HW2.out, .inl ⟨rfl, by have := HS.out; omega, by have := HS.out; omega, HV.out⟩⟩
        | some e =>
          rw [hf] at hlk
          have HT := Lib.hid (show gat l p.data.toList = (e.2.1 != 2) by unfold gat; rw [hf])
          simp only [Option.map_some, Option.getD_some, Option.isSome_some] at hlk
          clear hf
          go_wp2_with fail
          refine (par10 p HI.out.1 _).mono ?_
          rintro r w2 ⟨d2, nm2, er, rfl, ho, hb⟩
          have HB2 := Lib.hid (HB.out.trans (hb.mono HB.out.size))
          have HW2 := Lib.hid (HW.out.trans (hb.mono HW.out.size))
          clear hb hcP hlk
          rcases ho with ⟨h9, u, y, rfl⟩ | ⟨h9, rfl, hd2⟩
          · have HV := Lib.hid (show R = (e.2.1 != 2) by
              have h1 := HGR.out
              rw [← h9] at h1
              rw [HIR.out, h1.1, ← HT.out, h1.2])
            clear h9
            go_wp2
            go_roundg 0
            case measure => omega
            case rel => exact ⟨(e.2.1 != 2), d2, by simp, rfl, HB2.out, HW2.out, .inr ⟨u, y, rfl, HV.out⟩⟩
          · have HV := Lib.hid (show isP d2.data.toList ∧ R = ((e.2.1 != 2) || gup l d2.data.toList) by
              rw [hd2]
              exact ⟨(par9_isP HI.out.1 h9).1, by rw [HIR.out, HGU.out _ HI.out.1 h9, HT.out]⟩)
            have HS := Lib.hid (show d2.size < p.size by
              rw [Lib.size_eq, Lib.size_eq, hd2]
              exact (par9_isP HI.out.1 h9).2)
            clear h9 hd2
            go_wp2
            go_roundg (gk - 1)
            case measure => have := HS.out; omega
            case rel => exact ⟨(e.2.1 != 2), d2, by simp, rfl, HB2.out, HW2.out, .inl ⟨rfl, by have := HS.out; omega, by have := HS.out; omega, HV.out⟩⟩
    · go_wp2
      go_ret
      exact ⟨by rw [HI.out]; rfl, HB.out⟩
end Go.Proofs.YtlncdmdffpaojaaGreatDoor
