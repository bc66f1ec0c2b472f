/-
  The contract of list.shown, and of the iterator that it hands back: it goes through a directory's names, each with what lies there, in no order. Conditions: the stack lies in memory and can be looked at; a directory lies at the path, with that floor; errorType holds error's type.
  append to a slice of a call's own: whose block it is that holds what is made: the one that was, or a new one. No condition but that it fits.
  A box that holds a slice of a call's own, as the invariant of a range over a function whose body appends. No condition.
  What lies under a directory of a stack, gathered name by name (list.below). No condition.
  A region that draws its order, of which the first n operations leave what was there as it was and yield the same in every order (OldQ), and the others come one behind the other: one walk of the first ones in the order of the text, then the others as a plain list. No condition.
  A region that draws its order, in a round of a range over a function: walked as anywhere else, where no operation of it is a defer statement and the round is not let out. No condition.
  The contract of list.below: all that a stack shows under a directory, each once, in no order; over the same of the directories in it. Conditions: the stack lies in memory and can be looked at; a directory lies at the path, with that floor; errorType holds error's type.
  The contract of slices.SortFunc at entries as package list calls it: what the slice held, sorted by paths. Conditions: the slice lies in memory that the call made itself, and holds at most 100000.
  list.Walk keeps its contract (walk13c : Walk13). Conditions as there.
-/
import Derived.Test.YtlncdmdffpaojaaGreatDoorPf
import Derived.Test.YtlncdmdffpaojaaGreatDoorPe
import Derived.Test.YtlncdmdffpaojaaGreatDoorPd
import Derived.WalkKit
import Derived.Laws.AppendOwn
import Derived.Laws.OwnMore
import Derived.OwnWalkIn
import Derived.RangeFuncBox
import Derived.Test.YtlncdmdffpaojaaGreatDoorPc
import Derived.StillTail
import Derived.OrdersIn
import Derived.TacticsIn
import Derived.RangeFuncCalls
import Derived.Deep.LoopGhost
import Derived.Shelf.RegionOpen
import Derived.Test.YtlncdmdffpaojaaGreatDoorPk
namespace Go.Proofs.YtlncdmdffpaojaaGreatDoor
open Go.RowKit Go.Maps

theorem shown13 (a : Option Addr) (n cap : Nat) (p : ByteArray) (f : Nat) (w : World) : Calls Tryz.prog 55 #[.slice a n cap, .string p, .int .i64 (f : Int)] w fun e w' => ∃ b, e = .returned (.func (.func 78) #[] #[.pointer (some ⟨b, 0, none⟩), .pointer (some ⟨b + 1, 0, none⟩), .pointer (some ⟨b + 2, 0, none⟩)]) ∧ w.heap.size ≤ b ∧ b + 2 < w'.heap.size ∧ w'.cell? ⟨b, 0, none⟩ = some (.slice a n cap) ∧ w'.cell? ⟨b + 1, 0, none⟩ = some (.string p) ∧ w'.cell? ⟨b + 2, 0, none⟩ = some (.int .i64 (f : Int)) ∧ Below w.heap.size w w' := by
  obtain ⟨B, hB⟩ : ∃ B, w.heap.size = B := ⟨_, rfl⟩
  obtain ⟨V1, h1⟩ : ∃ V, w.alloc (.cells #[.slice a n cap] 22) = V := ⟨_, rfl⟩
  obtain ⟨V2, h2⟩ : ∃ V, V1.alloc (.cells #[.string p] 9) = V := ⟨_, rfl⟩
  obtain ⟨V3, h3⟩ : ∃ V, V2.alloc (.cells #[.int .i64 (f : Int)] 3) = V := ⟨_, rfl⟩
  have s1 : V1.heap.size = B + 1 := by rw [← h1, ← hB]; simp
  have s2 : V2.heap.size = B + 2 := by rw [← h2]; simp; omega
  have s3 : V3.heap.size = B + 3 := by rw [← h3]; simp; omega
  have b1 : Below w.heap.size w V1 := by rw [← h1]; exact (Below.refl _ _).alloc (Nat.le_refl _) _
  have b2 : Below V1.heap.size V1 V2 := by rw [← h2]; exact (Below.refl _ _).alloc (Nat.le_refl _) _
  have b3 : Below V2.heap.size V2 V3 := by rw [← h3]; exact (Below.refl _ _).alloc (Nat.le_refl _) _
  have c1 : V1.cell? ⟨B, 0, none⟩ = some (.slice a n cap) := by rw [← h1, ← hB]; simp
  have c2 : V2.cell? ⟨B + 1, 0, none⟩ = some (.string p) := by rw [← h2, ← s1]; simp
  have c3 : V3.cell? ⟨B + 2, 0, none⟩ = some (.int .i64 (f : Int)) := by rw [← h3, ← s2]; simp
  have H := Lib.hid (show V3.cell? ⟨B, 0, none⟩ = some (.slice a n cap) ∧ V3.cell? ⟨B + 1, 0, none⟩ = some (.string p) ∧ V3.cell? ⟨B + 2, 0, none⟩ = some (.int .i64 (f : Int)) from
    ⟨((b3.cell (p := ⟨B, 0, none⟩) (show B < _ by omega)).trans (b2.cell (p := ⟨B, 0, none⟩) (show B < _ by omega))).trans c1, (b3.cell (p := ⟨B + 1, 0, none⟩) (show B + 1 < _ by omega)).trans c2, c3⟩)
  have HB := Lib.hid (show Below w.heap.size w V3 from (b1.trans (b2.mono b1.size)).trans (b3.mono (by omega)))
  have HS := Lib.hid (show V3.heap.size = B + 3 from s3)
  clear b1 b2 b3 c1 c2 c3 s3
  go_enter Tryz.func55, Tryz.ntmps55
  go_wp2
  go_ret
  exact ⟨B, rfl, by omega, by rw [HS.out]; omega, H.out.1, H.out.2.1, H.out.2.2, HB.out⟩
/-- A range over a function with two variables: the act of a round is told by the one ahead of the range (slots k1, k2: the variables'). -/
theorem rangeG13b {F : Fence} {n : Nat} {P : Program} {α : Type} {g : Operand} {p0 p1 : Tmp} {assign body : Code} {Q : Exit → Act → World → Prop} {a : Act} {w : World} (k1 k2 : Nat)
    (hro : F.round = none) (h1 : 1 ≤ n) {gf : Nat} {lb : Array Value} (hg : a.eval g = .func (.func gf) #[] lb) (hFg : F.fn gf) (eg : ∀ args w, (callFunc gf args).run P w = .ok (.enter gf args) w)
    {e1 e2 : α → Value} {Kp : World → World → Prop} {S Sp : List α → Prop} {N : Nat} {w0 : World} (hseq : SeqStopsK F (n - 1) P gf lb (fun x => #[e1 x, e2 x]) Kp S Sp N w0)
    (hKt : ∀ {A B C : World}, Kp A B → Kp B C → Kp A C) (hKb : ∀ (W : World) (l : Nat) (o o' : Obj), w.heap.size ≤ l → W.heap[l]? = some o → o.isCells = false → o.isWalk = false → Kp W (W.putObj l o')) (hb0 : Below w0.heap.size w0 w)
    (I : List α → World → Prop) (Ix : Code → List α → World → Prop) (hI : OwnFrom w.heap.size I) (hIx : ∀ c, OwnFrom w.heap.size (Ix c)) (h0 : I [] w)
    (hassign : ∀ (l : Nat) (x : α) (W : World) (K : Act → World → Prop), K { tmps := (((a.tmps.setIfInBounds p0 (e1 x)).setIfInBounds p1 (e2 x)).setIfInBounds k1 (e1 x)).setIfInBounds k2 (e2 x), defers := [] } W →
      assign.wpIn (F.inRound l) (n - 1 - 1) P (Exit.then K (fun _ _ _ => False)) { tmps := (a.tmps.setIfInBounds p0 (e1 x)).setIfInBounds p1 (e2 x), defers := [] } W)
    (hbody : ∀ (l : Nat) (pre : List α) (x : α) (W : World), I pre W → pre.length < N → body.wpIn (F.inRound l) (n - 1 - 1) P (ownPostG w.heap.size Kp I Ix (pre ++ [x]) W) { tmps := (((a.tmps.setIfInBounds p0 (e1 x)).setIfInBounds p1 (e2 x)).setIfInBounds k1 (e1 x)).setIfInBounds k2 (e2 x), defers := [] } W)
    (hdone : ∀ (D : Nat) (xs : List α) (W : World), w.heap.size ≤ D → S xs → I xs W → W.heap[D]? = some (.deferred (some [])) → Q .normal { a with defers := { target := .collected D, args := #[] } :: a.defers } W)
    (hstop : ∀ (D : Nat) (c : Code) (pre : List α) (W : World), w.heap.size ≤ D → Sp pre → Ix c pre W → W.heap[D]? = some (.deferred (some [])) → c.wpIn F n P Q { a with defers := { target := .collected D, args := #[] } :: a.defers } W) :
    (Code.rangeFunc g #[p0, p1] assign body).wpIn F n P Q a w :=
  wpIn_rangeFunc_ownG hro h1 hg hFg eg hseq hKt hKb hb0 (fun _ => rfl) I Ix hI hIx h0 (fun x => { tmps := (((a.tmps.setIfInBounds p0 (e1 x)).setIfInBounds p1 (e2 x)).setIfInBounds k1 (e1 x)).setIfInBounds k2 (e2 x), defers := [] }) (fun l x W K hK => by simpa using hassign l x W K hK) hbody hdone hstop
/-- A return of a function that holds a range over a function, nothing deferred. -/
theorem ret_marks13 {F : Fence} {n : Nat} {P : Program} {fn : Func} {R : Ending → World → Prop} {a : Act} {w : World} {v : Value} (h0 : a.defers = []) (hv : (results fn a.tmps).run P w = .ok v w) (hR : R (.returned v) w) : bodyPostM F n P fn R .ret a w := by
  show LeavesInM F n P fn a.tmps R a.defers .returning w
  rw [h0]
  exact ⟨v, hv, hR⟩
/-- .. one block of deferred calls, empty. -/
theorem ret_marks13d {F : Fence} {n : Nat} {P : Program} {fn : Func} {R : Ending → World → Prop} {a : Act} {w w' : World} {v : Value} {D : Nat} (h0 : a.defers = [{ target := .collected D, args := #[] }]) (ht : (Instr.takeDeferred D).run P w = .ok [] w') (hv : (results fn a.tmps).run P w' = .ok v w') (hR : R (.returned v) w') : bodyPostM F n P fn R .ret a w := by
  show LeavesInM F n P fn a.tmps R a.defers .returning w
  rw [h0]
  exact ⟨by simp, .inl ⟨D, w', rfl, ht, v, hv, hR⟩⟩
theorem below_others {W W' : World} (h : Below W.heap.size W W') : KeepsOthers W W' := ⟨h.size, fun k _ hk _ => (h.block k (Array.getElem?_eq_some_iff.1 hk).1).trans hk⟩
attribute [local go_sem] Oper.semAt_some
set_option maxRecDepth 10000 in
set_option maxHeartbeats 8000000 in
theorem seq13 (S : List (List Ent)) (a : Option Addr) (cap : Nat) (p : ByteArray) (f : Nat) (w0 w : World) (hE : EtLaid w0) (hb : Below w0.heap.size w0 w) (hS : Stk w a cap S) (hD : DirAt S p.data.toList f) (b1 b2 b3 : Nat)
    (h1 : w.cell? ⟨b1, 0, none⟩ = some (.slice a S.length cap)) (h2 : w.cell? ⟨b2, 0, none⟩ = some (.string p)) (h3 : w.cell? ⟨b3, 0, none⟩ = some (.int .i64 (f : Int))) :
    SeqL Tryz.prog 78 #[.pointer (some ⟨b1, 0, none⟩), .pointer (some ⟨b2, 0, none⟩), .pointer (some ⟨b3, 0, none⟩)] (fun x : NameOf S p.data.toList => #[.string (bs x.1), fdnV (fndAt S p.data.toList x.1)]) (AllN S p.data.toList) (SomeN S p.data.toList) 6464 w0.heap.size (fun k => k = b2 ∨ k = b3) w :=
  fun l J Jx O0 W hW hl1 hl2 hJO hJ hJx hY h0 hO0 => by
  have HE := Lib.hid hE
  have HS := Lib.hid hS
  have HD := Lib.hid hD
  have HW := Lib.hid hW
  have HL := Lib.hid (And.intro hl1 hl2)
  have HJO := Lib.hid hJO
  have HJ := Lib.hid hJ
  have HJX := Lib.hid hJx
  have HY := Lib.hid hY
  have H0 := Lib.hid h0
  have HO0 := Lib.hid hO0
  have HB := Lib.hid hb
  have k1 := World.block_lt_of_cell? w _ h1
  have k2 := World.block_lt_of_cell? w _ h2
  have k3 := World.block_lt_of_cell? w _ h3
  obtain ⟨Wa, hWa⟩ : ∃ V, W.alloc (.cells #[.func (.yield l) #[] #[]] 133) = V := ⟨_, rfl⟩
  have hba : Below W.heap.size W Wa := by rw [← hWa]; exact (Below.refl _ _).alloc (Nat.le_refl _) _
  have hwa : Below w.heap.size w Wa := hW.trans (hba.mono hW.size)
  have c1 : Wa.cell? ⟨b1, 0, none⟩ = some (.slice a S.length cap) := (hwa.cell (p := ⟨b1, 0, none⟩) k1).trans h1
  have c2 : Wa.cell? ⟨b2, 0, none⟩ = some (.string p) := (hwa.cell (p := ⟨b2, 0, none⟩) k2).trans h2
  have c3 : Wa.cell? ⟨b3, 0, none⟩ = some (.int .i64 (f : Int)) := (hwa.cell (p := ⟨b3, 0, none⟩) k3).trans h3
  have H23 := Lib.hid (And.intro (And.intro k2 k3) (And.intro h2 h3))
  have HBA := Lib.hid hba
  have HWA := Lib.hid hwa
  have hmet := met13 S a cap p f Wa (hS.below hwa) (by have := hD.ok.1; omega) hD.ok.2 hD.le hD.low
  have hnm : ∀ x, (∃ l ∈ S.drop f, ∃ e ∈ l, in13 p.data.toList x e) → nm x = true ∧ (pcs p.data.toList).length < 6 := fun x hx => hD.met hx
  have hnk : ∀ x, (∃ l ∈ S.drop f, ∃ e ∈ l, in13 p.data.toList x e) → LkOK (ownS (S.drop f) p.data.toList x) ∧ ((lkV (ownS (S.drop f) p.data.toList x) (47 :: x)).1 = 0 ↔ x ∈ nmsV (stk S) p.data.toList) ∧ (x ∈ nmsV (stk S) p.data.toList → ∃ g, (lkV (ownS (S.drop f) p.data.toList x) (47 :: x)).2 = ((rn13 x, (fndAt S p.data.toList x).1.2), g) ∧ g + f = (fndAt S p.data.toList x).2 ∧ (fndAt S p.data.toList x).1.1 = bs (cp13 p.data.toList x) ∧ (fndAt S p.data.toList x).2 < S.length) := fun x hx => by
    obtain ⟨h1, h2⟩ := hD.met hx
    obtain ⟨h3, h4⟩ := hD.look h1 h2
    exact ⟨hD.own h1, h3, h4⟩
  have hnn : ∀ x, x ∈ nmsV (stk S) p.data.toList → ∃ l ∈ S.drop f, ∃ e ∈ l, in13 p.data.toList x e := fun x hx => hD.names hx
  obtain ⟨L, hLd⟩ : ∃ L, S.drop f = L := ⟨_, rfl⟩
  have hl9 : L.length ≤ 9 := by rw [← hLd, List.length_drop]; have := hD.ok.1; omega
  rw [hLd] at hmet hnm hnk hnn
  obtain ⟨D, hDl⟩ : ∃ D, L.length = D := ⟨_, rfl⟩
  unfold Met13 at hmet
  rw [hDl] at hmet
  have HDL := Lib.hid (show L.length = D ∧ D ≤ 9 by omega)
  have HMET := Lib.hid hmet
  have HNM := Lib.hid hnm
  have HNK := Lib.hid hnk
  have HNN := Lib.hid hnn
  have HPA := Lib.hid hD.path
  have HP54 := Lib.hid (show p.size ≤ 54 by rw [Lib.size_eq]; exact isP_len hD.path)
  have HS9 := Lib.hid hD.ok.1
  clear hmet hnm hnk hnn hLd hDl hl9
  clear hE hS hD hl1 hl2 hJO hJ hJx hY h0 hO0 k1 k2 k3 h1 h2 h3 hba hwa hb hW
  show Calls _ _ #[_, _, _, _] _ _
  refine (callsIn_wide (n := 9)).1 ?_
  refine callsIn_of_wp_marks Tryz.func78 rfl trivial ?_ rfl
  simp only [Tryz.ntmps78, List.size_toArray, List.length_cons, List.length_nil, Nat.reduceAdd, Nat.reduceSub, Array.replicate_succ, Array.replicate_zero, List.push_toArray, List.append_toArray, List.nil_append, List.cons_append]
  refine wpIn_wide.2 ?_
  go_wp2_with fail
  refine (HMET.out).mono ?_
  rintro e Wm ⟨⟨m, c, ns, ad, rfl, hm, hns, hrow, hc, hmb⟩, hbm⟩
  have HM := Lib.hid hm
  have HNS := Lib.hid hns
  have HROW := Lib.hid hrow
  have HC := Lib.hid hc
  have HMB := Lib.hid hmb
  have HBM := Lib.hid hbm
  clear hm hns hrow hc hmb hbm
  obtain ⟨Bm, hBm⟩ : ∃ B, Wm.heap.size = B := ⟨_, rfl⟩
  obtain ⟨WN, hWN⟩ : ∃ V, Wm.alloc (.cells #[.map (some m)] 137) = V := ⟨_, rfl⟩
  have hall := all13 (some m) Wm
  rw [hBm, hWN] at hall
  have HALL := Lib.hid hall
  have hbn : Below Wm.heap.size Wm WN := by rw [← hWN]; exact (Below.refl _ _).alloc (Nat.le_refl _) _
  have hmn : WN.cell? ⟨Bm, 0, none⟩ = some (.map (some m)) := by rw [← hWN, ← hBm]; simp
  have hsn : WN.heap.size = Bm + 1 := by rw [← hWN, ← hBm]; simp
  have hsa : Wa.heap.size = W.heap.size + 1 := by rw [← hWa]; simp
  obtain ⟨kM, hkM, hseq⟩ := all_stops13 (f := setA ad D ns) (v := fun x => .slice (some ⟨ad x, 0, none⟩) D D) (fun x u hu => by
    unfold setA at hu
    split at hu
    · exact (Option.some.inj hu).symm
    · cases hu) 2 (by omega) Bm m c WN (by omega) hmn (HM.out.below hbn) (fun x hx => by
      obtain ⟨h1, _⟩ := HNM.out x ((HNS.out x).1 ((setA_some _ _ _ _).1 hx))
      have := nm_len h1
      unfold maxLen
      omega)
  -- sizes and what lies at the start of the range
  have hAM : Wa.heap.size ≤ Wm.heap.size := HBM.out.size
  have hwW : w.heap.size ≤ W.heap.size := HW.out.size
  have h0w : w0.heap.size ≤ w.heap.size := HB.out.size
  have hWV : W.heap.size ≤ WN.heap.size := by omega
  have HWV := Lib.hid hWV
  have HWN : Hid (Below Wa.heap.size Wa WN) := HBM.out.trans (hbn.mono hAM)
  have HWW := Lib.hid (show Below W.heap.size W WN from HBA.out.trans (HWN.out.mono (by omega)))
  have hP : ∀ k, (k = b2 ∨ k = b3) → k < w.heap.size := fun k hk => by
    obtain ⟨⟨k2, k3⟩, _⟩ := H23.out
    rcases hk with rfl | rfl
    · exact k2
    · exact k3
  have HP := Lib.hid hP
  have HPV := Lib.hid (show ∀ k, (k = b2 ∨ k = b3) → k < WN.heap.size from fun k hk => by have := hP k hk; omega)
  have H0V := Lib.hid (show w0.heap.size ≤ WN.heap.size by omega)
  have HC2 := Lib.hid (show WN.cell? ⟨b2, 0, none⟩ = some (.string p) ∧ WN.cell? ⟨b3, 0, none⟩ = some (.int .i64 (f : Int)) by
    obtain ⟨⟨k2, k3⟩, h2, h3⟩ := H23.out
    have h9 : Below w.heap.size w WN := HW.out.trans (HWW.out.mono hwW)
    exact ⟨(h9.cell (p := ⟨b2, 0, none⟩) k2).trans h2, (h9.cell (p := ⟨b3, 0, none⟩) k3).trans h3⟩)
  obtain ⟨Y0, hY0⟩ : ∃ Y, W.heap.size = Y := ⟨_, rfl⟩
  have HY0 := Lib.hid hY0
  have HCY := Lib.hid (show WN.cell? ⟨Y0, 0, none⟩ = some (.func (.yield l) #[] #[]) by
    rw [← hY0]
    have h9 : Wa.cell? ⟨W.heap.size, 0, none⟩ = some (.func (.yield l) #[] #[]) := by rw [← hWa]; simp
    exact (HWN.out.cell (p := ⟨W.heap.size, 0, none⟩) (show W.heap.size < _ by omega)).trans h9)
  have HRN := Lib.hid (show ∀ x ∈ ns, RowAt Wa.heap.size WN (ad x) D (row13 L p.data.toList x D 0) from fun x hx => (HROW.out x hx).below hbn)
  have HMW := Lib.hid (show W.heap.size ≤ Wa.heap.size by omega)
  have hInv : InvS J w0 w W WN (fun k => k = b2 ∨ k = b3) [] O0 WN := by
    refine ⟨HJ.out _ _ _ _ H0.out (Nat.le_refl _) HWW.out fun k hk => ?_, fun k hk => ?_, HB.out.trans ((HW.out.trans (HWW.out.mono hwW)).mono h0w), fun _ _ _ => rfl, fun _ _ => rfl, Nat.le_refl _⟩
    · have := (HO0.out k hk).1
      exact HWW.out.block k (by omega)
    · have := HO0.out k hk
      exact ⟨.inl ⟨this.1, this.2.2⟩, this.2.1⟩
  have HI0 := Lib.hid hInv
  clear hall hbn hAM hwW h0w hP hInv hsa H0
  go_wp2_with fail
  refine (HALL.out).mono ?_
  rintro e W9 ⟨rfl, rfl⟩
  clear hWN hBm hWa c1 c2 c3
  go_wp2_with fail
  refine wpIn_wide.1 (rangeG13b (n := 3) (F := Fence.wide) 5 6 rfl (by omega) (gf := 107) (lb := #[.pointer (some ⟨Bm, 0, none⟩)]) rfl trivial (enters_of Tryz.func107 (by kernel_rfl) rfl) hseq walksK_t walksK_b (Below.refl _ _)
    (fun ps X => ∃ O, InvS J w0 w W W9 (fun k => k = b2 ∨ k = b3) (outL S p.data.toList ps) O X)
    (fun c ps X => c = .ret ∧ (Jx (outL S p.data.toList ps) X ∧ W.heap.size ≤ X.heap.size))
    (invS_own _ HJO.out HJ.out HWV.out HPV.out H0V.out)
    (fun c s X Y row hs hg hr => ⟨hs.1, jx_own (fun ps => outL S p.data.toList ps) HJX.out HWV.out s X Y row hs.2 hg hr⟩)
    ⟨O0, HI0.out⟩
    ?assign ?body ?done ?stop)
  case assign =>
    intro l' x X K hK
    simp only [List.setIfInBounds_toArray, List.set_cons_succ, List.set_cons_zero] at hK ⊢
    gi_wp2
    exact hK
  case done =>
    rintro D9 ps X hD9 ⟨hnd, hall⟩ ⟨O, hI⟩ hK
    have hb9 : Below W.heap.size X (X.putObj D9 (.deferred none)) := below_put _ (by have := HWV.out; omega) (by have := HWV.out; have := hI.size; omega)
    have hj9 : J (outL S p.data.toList ps) O (X.putObj D9 (.deferred none)) := HJ.out _ _ _ _ hI.j (by have := HWV.out; have := hI.size; omega) hb9 fun k hk => by
      obtain ⟨o, q1, q2⟩ := HJO.out _ _ _ hI.j k hk
      exact (cellsKept_put _ hK rfl k o q1 q2).trans q1.symm
    have ha9 : AllN S p.data.toList (outL S p.data.toList ps) := all_out hnd hall fun x hx => (setA_some _ _ _ _).2 ((HNS.out x).2 (HNN.out x hx))
    simp only [Exit.inBlock]
    go_wp2_with fail
    exact ret_marks13d rfl (run_takeDeferred hK) (results_none rfl _ _ _) ⟨⟨_, rfl⟩, .inl ⟨_, O, ha9, hj9⟩⟩
  case stop =>
    rintro D9 c ps X hD9 hnd ⟨rfl, hjx, hsz⟩ hK
    have hj9 : Jx (outL S p.data.toList ps) (X.putObj D9 (.deferred none)) := HJX.out _ _ _ hjx hsz (below_put _ (by have := HWV.out; omega) hsz) (cellsKept_put _ hK rfl)
    refine wpIn_wide.2 ?_
    go_wp2_with fail
    exact ret_marks13d rfl (run_takeDeferred hK) (results_none rfl _ _ _) ⟨⟨_, rfl⟩, .inr ⟨_, some_out hnd, hj9⟩⟩
  case body =>
    rintro l' ps x X ⟨O, hI⟩ hlt
    simp only [List.setIfInBounds_toArray, List.set_cons_succ, List.set_cons_zero]
    have HI := Lib.hid hI
    have hxn : x.1 ∈ ns := (setA_some _ _ _ _).1 x.2
    have hmx := (HNS.out x.1).1 hxn
    obtain ⟨hx8, _⟩ := HNM.out x.1 hmx
    obtain ⟨hok, hz, hv⟩ := HNK.out x.1 hmx
    have hrx := HRN.out x.1 hxn
    have hrX : RowAt Wa.heap.size X (ad x.1) D (row13 L p.data.toList x.1 D 0) := hrx.of fun k cs t hk _ hc => (hI.mid k (by have := HMW.out; omega) (Array.getElem?_eq_some_iff.1 hc).1).trans hc
    have hsX : Stk X (some ⟨ad x.1, 0, none⟩) D (ownS L p.data.toList x.1) := by
      obtain ⟨e1, _⟩ := HDL.out
      subst e1
      exact row_stk hrX
    have hlo : (ownS L p.data.toList x.1).length = D := by rw [ownS_len]; exact HDL.out.1
    have hat := look12 (ownS L p.data.toList x.1) (some ⟨ad x.1, 0, none⟩) D (⟨#[47]⟩ ++ bs x.1) X (HE.out.below HE.out.lt hI.low) hsX (by have := HDL.out.2; omega) (fun l hl => sm_right (hok.2 l hl)) (by rw [rn_cat, Lib.size_eq, rn_list]; have := nm_len hx8; simp; omega)
    rw [hlo, show ((⟨#[47]⟩ : ByteArray) ++ bs x.1).data.toList = 47 :: x.1 by rw [rn_cat, rn_list]] at hat
    have c2 : X.cell? ⟨b2, 0, none⟩ = some (.string p) := (World.cell?_of_block (hI.pr b2 (.inl rfl))).trans HC2.out.1
    have c3 : X.cell? ⟨b3, 0, none⟩ = some (.int .i64 (f : Int)) := (World.cell?_of_block (hI.pr b3 (.inr rfl))).trans HC2.out.2
    have cy : X.cell? ⟨Y0, 0, none⟩ = some (.func (.yield l) #[] #[]) := (World.cell?_of_block (hI.mid Y0 (by have := HY0.out; omega) (World.block_lt_of_cell? W9 _ HCY.out))).trans HCY.out
    have HCC := Lib.hid (And.intro c2 (And.intro c3 cy))
    have zc : ¬ 9223372036854775807 < 1 + (bs x.1).size := by have := nm_len hx8; rw [bs_size]; omega
    have HX8 := Lib.hid (nm_len hx8)
    clear hI hxn hmx hx8 hok hrx hrX hsX hlo c2 c3 cy hY0
    by_cases hin : x.1 ∈ nmsV (stk S) p.data.toList
    · obtain ⟨g, hg1, hg2, hg3, hg4⟩ := hv hin
      rw [hz.2 hin, hg1] at hat
      have HIN := Lib.hid hin
      obtain ⟨F, hF⟩ : ∃ F, fndAt S p.data.toList x.1 = F := ⟨_, rfl⟩
      rw [hF] at hg2 hg3 hg4 hat
      have HF := Lib.hid hF
      obtain ⟨⟨ep, ek, ed⟩, fl⟩ := F
      replace hg2 : g + f = fl := hg2
      replace hg3 : ep = bs (cp13 p.data.toList x.1) := hg3
      replace hg4 : fl < S.length := hg4
      have HEP := Lib.hid hg3
      have HFL := Lib.hid (And.intro hg2 hg4)
      have HAT := Lib.hid hat
      clear hz hv hin hg1 hg2 hg3 hg4 hF hat
      gi_wp2_with fail
      refine ⟨trivial, (CallsIn.inRound l' (callsIn_wide.2 HAT.out)).mono ?_⟩
      rintro e Y ⟨er, rfl, her, hbY⟩
      obtain rfl : er = .nilIface := by
        rcases her with ⟨_, rfl⟩ | ⟨h, _⟩
        · rfl
        · exact absurd rfl h
      clear her
      obtain ⟨V, U, M, hV, hM, hU, hv, hu, hbF⟩ := fd_box Y ((rn13 x.1, ek, ed), g)
      have v0 := hv.c0
      have v1 := hv.c1
      have v2 := hv.c2
      have v3 := hv.c3
      have vf0 := hv.f0
      have vf1 := hv.f1
      have vf2 := hv.f2
      have vf3 := hv.f3
      have HU := Lib.hid hu
      have HBU := Lib.hid (show Below X.heap.size X U from hbY.trans (hbF.mono hbY.size))
      have HMX := Lib.hid (show X.heap.size ≤ M by have := hbY.size; omega)
      have hcc := HCC.out
      have HCU := Lib.hid (show U.cell? ⟨b2, 0, none⟩ = some (.string p) ∧ U.cell? ⟨b3, 0, none⟩ = some (.int .i64 (f : Int)) ∧ U.cell? ⟨Y0, 0, none⟩ = some (.func (.yield l) #[] #[]) from
        ⟨(HBU.out.cell (p := ⟨b2, 0, none⟩) (World.block_lt_of_cell? X _ hcc.1)).trans hcc.1, (HBU.out.cell (p := ⟨b3, 0, none⟩) (World.block_lt_of_cell? X _ hcc.2.1)).trans hcc.2.1, (HBU.out.cell (p := ⟨Y0, 0, none⟩) (World.block_lt_of_cell? X _ hcc.2.2)).trans hcc.2.2⟩)
      have HLT := Lib.hid (show b2 < X.heap.size ∧ b3 < X.heap.size ∧ Y0 < X.heap.size from ⟨World.block_lt_of_cell? X _ hcc.1, World.block_lt_of_cell? X _ hcc.2.1, World.block_lt_of_cell? X _ hcc.2.2⟩)
      have cU2 := HCU.out.1
      have HI9 := Lib.hid (HI.out.step HJO.out HJ.out HWV.out HPV.out H0V.out (HBU.out.mono HI.out.size) (cellsKept_below HBU.out))
      clear hv hu hbF hbY hcc zc
      gi_wp2_with fail
      have htr := trim13 p HPA.out HP54.out U
      obtain ⟨tt, htt⟩ : ∃ t, (if p.data.toList = [47] then (⟨#[]⟩ : ByteArray) else p) = t := ⟨_, rfl⟩
      have hcat : (tt ++ (⟨#[47]⟩ : ByteArray)) ++ bs x.1 = ep := by rw [HEP.out, ← htt]; exact path_text HPA.out
      have hts : tt.size ≤ 54 := by
        rw [← htt]
        split
        · exact Nat.zero_le _
        · exact HP54.out
      rw [htt] at htr
      refine ⟨trivial, (CallsIn.inRound l' (callsIn_wide.2 htr)).mono ?_⟩
      rintro e U' ⟨rfl, hUU⟩
      obtain rfl : U = U' := hUU
      have z1 : ¬ 9223372036854775807 < tt.size + 1 := by omega
      have z2 : ¬ 9223372036854775807 < tt.size + 1 + (bs x.1).size := by have := HX8.out; rw [bs_size]; omega
      obtain ⟨U2, hU2⟩ : ∃ V, U.setCell ⟨M, 0, none⟩ (.string ep) = V := ⟨_, rfl⟩
      have hu2 : FdAt U2 M ((ep, ek, ed), g) := by rw [← hU2]; exact set_of8 HU.out 0 _
      obtain ⟨U3, hU3⟩ : ∃ V, U2.setCell ⟨M, 3, none⟩ (.int .i64 (fl : Int)) = V := ⟨_, rfl⟩
      have hu3 : FdAt U3 M ((ep, ek, ed), fl) := by rw [← hU3]; exact set_of8 hu2 3 _
      have u0 := HU.out.c0
      have uf0 := HU.out.f0
      have u3 := hu2.c3
      have uf3 := hu2.f3
      have q0 := hu3.c0
      have q1 := hu3.c1
      have q2 := hu3.c2
      have q3 := hu3.c3
      have hlt := HLT.out
      have hMX := HMX.out
      have o2 : ∀ k, k ≠ M → U2.heap[k]? = U.heap[k]? := fun k hk => by rw [← hU2]; exact Below.heap_setCell U ⟨M, 0, none⟩ _ k hk
      have o3 : ∀ k, k ≠ M → U3.heap[k]? = U2.heap[k]? := fun k hk => by rw [← hU3]; exact Below.heap_setCell U2 ⟨M, 3, none⟩ _ k hk
      have cF : U2.cell? ⟨b3, 0, none⟩ = some (.int .i64 (f : Int)) := (World.cell?_of_block (o2 b3 (by omega))).trans HCU.out.2.1
      have cY : U3.cell? ⟨Y0, 0, none⟩ = some (.func (.yield l) #[] #[]) := (World.cell?_of_block ((o3 Y0 (by omega)).trans (o2 Y0 (by omega)))).trans HCU.out.2.2
      have hw : IntKind.i64.wrap ((g : Int) + (f : Int)) = (fl : Int) := by
        have h1 := HFL.out.1
        have h2 := HFL.out.2
        have h3 := HS9.out
        rw [show (g : Int) + (f : Int) = (fl : Int) by omega]
        exact IntWalk.i64_in _ (by omega)
      have hbX3 : Below X.heap.size X U3 := by
        rw [← hU3, ← hU2]
        exact (HBU.out.setCell (p := ⟨M, 0, none⟩) hMX _).setCell (p := ⟨M, 3, none⟩) hMX _
      have HBX3 := Lib.hid hbX3
      have hI3 := HI.out.step HJO.out HJ.out HWV.out HPV.out H0V.out (hbX3.mono HI.out.size) (cellsKept_below hbX3)
      have HI3 := Lib.hid hI3
      have hyy : YieldAt Fence.wide 0 Tryz.prog l #[.string (bs x.1), .agg #[.string ep, .int .i64 ek, .string ed, .int .i64 (fl : Int)]] U3 (fun e W' => RoundL l w0.heap.size O U3 W' ∧ ((e = .returned (.bool true) ∧ ∃ O', GrowO U3.heap.size O O' ∧ J (outL S p.data.toList (ps ++ [x])) O' W') ∨ (e = .returned (.bool false) ∧ Jx (outL S p.data.toList (ps ++ [x])) W'))) := by
        have h9 := HY.out (outL S p.data.toList ps) O ⟨x.1, HIN.out⟩ U3 hI3.j (by have := outL_len (S := S) (P := p.data.toList) ps; have := HC.out; omega)
        rw [HF.out, ← outL_in ps x HIN.out] at h9
        exact h9
      obtain ⟨fn9, tmps9, assign9, body9, hy, hR⟩ := yield_in (m' := 0) l' hyy
      have HR := Lib.hid hR
      clear htr htt hts hu2 hu3 hlt hMX o2 o3 hbX3 hI3 hyy hR v0 v1 v2 v3 vf0 vf1 vf2 vf3
      gi_wp2_with fail
      refine HR.out.mono ?_
      have HN3 := Lib.hid (show W9.heap.size ≤ X.heap.size from HI.out.size)
      clear hU2 hU3 hU hV hM hy hcat hw
      rintro e Y2 ⟨hr, (⟨rfl, O', hg', hj'⟩ | ⟨rfl, hjx⟩)⟩
      · have HI5 := Lib.hid (HI3.out.round hr hg' hj' HL.out HP.out HWV.out H0V.out)
        have HKF := Lib.hid (show KeepsFrom W9.heap.size X Y2 from ⟨Nat.le_trans HBX3.out.size hr.size, fun k o hk h1 h2 => hr.others k o (by have := HL.out; have := HWV.out; omega) ((HBX3.out.block k (Array.getElem?_eq_some_iff.1 h1).1).trans h1) h2⟩)
        have HKW := Lib.hid (show KeepsWalks X Y2 from (below_others HBX3.out).walks.trans hr.walks)
        clear hr hg' hj'
        gi_wp2
        exact ⟨HKF.out, HKW.out, O', HI5.out⟩
      · have HKF := Lib.hid (show KeepsFrom W9.heap.size X Y2 from ⟨Nat.le_trans HBX3.out.size hr.size, fun k o hk h1 h2 => hr.others k o (by have := HL.out; have := HWV.out; omega) ((HBX3.out.block k (Array.getElem?_eq_some_iff.1 h1).1).trans h1) h2⟩)
        have HJ5 := Lib.hid (And.intro hjx (show W.heap.size ≤ Y2.heap.size by have := HBX3.out.size; have := hr.size; have := HWV.out; have := HN3.out; omega))
        clear hr hjx
        gi_wp2
        exact ⟨HKF.out, rfl, HJ5.out⟩
    · have hz0 : (lkV (ownS L p.data.toList x.1) (47 :: x.1)).1 ≠ 0 := fun e => hin (hz.1 e)
      obtain ⟨ne, hne⟩ : ∃ n, (lkV (ownS L p.data.toList x.1) (47 :: x.1)).1 = n := ⟨_, rfl⟩
      rw [lkV_err hz0, hne, show ((noE, 0) : Ent × Nat) = (((⟨#[]⟩ : ByteArray), (0 : Int), (⟨#[]⟩ : ByteArray)), 0) from rfl] at hat
      rw [hne] at hz0
      have HIN := Lib.hid hin
      have HAT := Lib.hid hat
      have HN0 := Lib.hid hz0
      clear hz hv hin hat hz0 hne
      gi_wp2_with fail
      refine ⟨trivial, (CallsIn.inRound l' (callsIn_wide.2 HAT.out)).mono ?_⟩
      rintro e Y ⟨er, rfl, her, hbY⟩
      obtain ⟨u, z, rfl⟩ : ∃ u z, er = .iface u z := by
        rcases her with ⟨h, _⟩ | ⟨_, h⟩
        · exact absurd h HN0.out
        · exact h.iface
      clear her
      obtain ⟨V, U, M, hV, hM, hU, hv, hu, hbF⟩ := fd_box Y (((⟨#[]⟩ : ByteArray), (0 : Int), (⟨#[]⟩ : ByteArray)), 0)
      replace hU : (((V.setCell ⟨M, 0, none⟩ (.string ⟨#[]⟩)).setCell ⟨M, 1, none⟩ (.int .i64 0)).setCell ⟨M, 2, none⟩ (.string ⟨#[]⟩)).setCell ⟨M, 3, none⟩ (.int .i64 0) = U := hU
      have v0 := hv.c0
      have v1 := hv.c1
      have v2 := hv.c2
      have v3 := hv.c3
      have vf0 := hv.f0
      have vf1 := hv.f1
      have vf2 := hv.f2
      have vf3 := hv.f3
      have HBU := Lib.hid (show Below X.heap.size X U from hbY.trans (hbF.mono hbY.size))
      have HI9 := Lib.hid (HI.out.step HJO.out HJ.out HWV.out HPV.out H0V.out (HBU.out.mono HI.out.size) (cellsKept_below HBU.out))
      clear hv hu hbF hbY zc
      gi_wp2
      refine ⟨(below_others HBU.out).from _, (below_others HBU.out).walks, O, ?_⟩
      rw [outL_out ps x HIN.out]
      exact HI9.out
end Go.Proofs.YtlncdmdffpaojaaGreatDoor

namespace Go.Proofs.YtlncdmdffpaojaaGreatDoor
open Go.RowKit

theorem run_append13 {P : Program} (w : World) (base : Nat) (t ty e : TypeId) (i : TypeInfo) (z : Value) (size bytes : Nat) (ht : P.underlying t = some (.slice e)) (hi : P.info? e = some i) (hz : i.zero = some z)
    (hsize : i.size = size) (hby : i.bytes = bytes) (hzs : z.cells.size = size) (hsz : 0 < size) (v : Value) (n : Nat) (xs : List Value) (hown : w.ownsRow base e size v n xs)
    (aS : Option Addr) (m c : Nat) (news : List Value) (hl : news.length = m * size) (hsrc : ∀ ad, aS = some ad → ∀ j u, news[j]? = some u → w.cell? (ad.add j) = some u) (hnone : aS = none → m = 0 ∧ c = 0) (h1 : ∀ u ∈ news, u.oneCell' = true)
    (h63 : n + m ≤ maxLen) (hbytes : (n + m) * bytes ≤ 140737488355328) (hbase : base ≤ w.heap.size) :
    ∃ v' w', (Builtin.append_ #[t, t] ty #[v, .slice aS m c]).run P w = .ok v' w' ∧ w'.ownsRow base e size v' (n + m) (xs ++ news) ∧ w.grownBy w' v.ownBlock ∧ (∀ g, v'.ownBlock = some g → v.ownBlock = some g ∨ w.heap.size ≤ g) := by
  cases aS with
  | none =>
    obtain ⟨rfl, rfl⟩ := hnone rfl
    obtain rfl : news = [] := List.eq_nil_of_length_eq_zero (by simpa using hl)
    exact ⟨v, w, run_append_owned_none (P := P) w base t ty e i size ht hi v n xs hown, by simpa using hown, ⟨rfl, rfl, rfl, Nat.le_refl _, fun _ _ _ => rfl⟩, fun g hg => .inl hg⟩
  | some ad =>
    obtain ⟨v', w', hr, h2, h3, _⟩ := run_append_own (P := P) w base t ty e i z size bytes ht hi hz hsize hby hzs hsz v n xs hown ad m c news hl (hsrc ad rfl) h1 h63 hbytes hbase
    refine ⟨v', w', hr, h2, h3, ?_⟩
    rcases hown.2 with ⟨rfl, rfl⟩ | ⟨g, cap, cur, rfl, hbg, hg, hnc, hcm, hcs, htake⟩
    · have hx : xs = [] := List.eq_nil_of_length_eq_zero (by simpa using hown.1)
      subst hx
      obtain ⟨v2, w2, hr2, h4, _⟩ := run_append_own (P := P) w w.heap.size t ty e i z size bytes ht hi hz hsize hby hzs hsz _ 0 [] (World.ownsRow_nil w w.heap.size e size) ad m c news hl (hsrc ad rfl) h1 h63 hbytes (Nat.le_refl _)
      rw [hr] at hr2
      cases hr2
      exact fun k hk => .inr (h4.lt k hk).1
    · by_cases hroom : n + m ≤ cap
      · obtain ⟨w2, hr2, _⟩ := run_append_fits (P := P) w base t ty e i size ht hi hsize g n cap xs hown ad m c news hl (hsrc ad rfl) h1 hroom
        rw [hr] at hr2
        cases hr2
        exact fun k hk => .inl hk
      · have holds : ∀ j u, xs[j]? = some u → w.cell? ((⟨g, 0, none⟩ : Addr).add j) = some u := hown.cells (g := g) rfl
        subst hsize
        have hsmall : n + m ≤ 9223372036854775807 := by simp only [maxLen] at h63; omega
        have hr2 := run_append_grow (P := P) w t ty e i z ht hi hz ⟨g, 0, none⟩ n cap xs hown.1 holds ad m c news hl (hsrc ad rfl) (by omega) (by omega) (growslice_fits (by omega) (by rw [hby]; exact hbytes))
        rw [hr] at hr2
        cases hr2
        intro k hk
        obtain rfl : w.heap.size = k := by simpa [Value.ownBlock] using hk
        exact .inr (Nat.le_refl _)
theorem wpi_append13 {F : Fence} {n9 : Nat} {P : Program} {w : World} {ops : Array Oper} {rest : List Oper} {o : Oper} {a : Act} {Q : Exit → Act → World → Prop} (hg : o.guard = none) (s x : Operand) (t : TypeId)
    (hop : o.op = .call { callee := .builtin .append, args := #[s, x], argTypes := #[t, t] })
    (base : Nat) (e : TypeId) (i : TypeInfo) (z : Value) (size bytes : Nat) (ht : P.underlying t = some (.slice e)) (hi : P.info? e = some i) (hz : i.zero = some z)
    (hsize : i.size = size) (hby : i.bytes = bytes) (hzs : z.cells.size = size) (hsz : 0 < size) (v : Value) (n : Nat) (xs : List Value) (hs : a.eval s = v) (hown : w.ownsRow base e size v n xs)
    (aS : Option Addr) (m c : Nat) (news : List Value) (hx : a.eval x = .slice aS m c) (hl : news.length = m * size) (hsrc : ∀ ad, aS = some ad → ∀ j u, news[j]? = some u → w.cell? (ad.add j) = some u) (hnone : aS = none → m = 0 ∧ c = 0) (h1 : ∀ u ∈ news, u.oneCell' = true)
    (h63 : n + m ≤ maxLen) (hbytes : (n + m) * bytes ≤ 140737488355328) (hbase : base ≤ w.heap.size)
    (hK : ∀ v' w', w'.ownsRow base e size v' (n + m) (xs ++ news) → w.grownBy w' v.ownBlock → (∀ g, v'.ownBlock = some g → v.ownBlock = some g ∨ w.heap.size ≤ g) → wpListIn F n9 P ops Q rest (a.put o.dst v') w') : wpListIn F n9 P ops Q (o :: rest) a w := by
  refine wpListIn_plain hg fun K hK' => ?_
  obtain ⟨v', w', hrun, r1, r2, r3⟩ := run_append13 (P := P) w base t o.type e i z size bytes ht hi hz hsize hby hzs hsz v n xs hown aS m c news hl hsrc hnone h1 h63 hbytes hbase
  unfold Oper.wpIn
  refine ⟨?_, ?_⟩
  · simp [Oper.about, hop, resolve, Target.leads, Sem.run_pure]
  · rw [Oper.semAt_plain F _ _ (by rw [hop]; intro c hc'; cases hc')]
    simp [execOp, hop, resolve, invoke, builtin, hs, hx, hrun, Result.andThen]
    exact hK' _ _ (hK v' w' r1 r2 r3)
/-- A box that holds a slice of the call's own, and its block: what is turned by an append and a store. -/
def ownB (B : Nat) (v : Value) : Nat → Prop := fun k => k = B ∨ v.ownBlock = some k
theorem kept_append {W V w9 : World} {B : Nat} {v v' : Value} (hb : Below W.heap.size W V) (hg : V.grownBy w9 v.ownBlock) : ∀ k < W.heap.size, ¬ ownB B v k → (w9.setCell ⟨B, 0, none⟩ v').heap[k]? = W.heap[k]? := fun k hk hn => by
  rw [Below.heap_setCell w9 ⟨B, 0, none⟩ v' k (fun e => hn (.inl e)), hg.block k (by have := hb.size; omega) (fun e => hn (.inr e.symm)), hb.block k hk]
theorem grow_append {W V : World} {B : Nat} {v v' : Value} (hb : Below W.heap.size W V) (h : ∀ g, v'.ownBlock = some g → v.ownBlock = some g ∨ V.heap.size ≤ g) : ∀ k, ownB B v' k → ownB B v k ∨ W.heap.size ≤ k := fun k hk => by
  rcases hk with rfl | hk
  · exact .inl (.inl rfl)
  · rcases h k hk with h1 | h1
    · exact .inl (.inr h1)
    · exact .inr (Nat.le_trans hb.size h1)
end Go.Proofs.YtlncdmdffpaojaaGreatDoor

namespace Go.Proofs.YtlncdmdffpaojaaGreatDoor
open Go.RowKit Go.Maps

theorem ownsRow_gen {w w' : World} {B : Nat} {t : TypeId} {sz : Nat} {v : Value} {n : Nat} {xs : List Value} (h : w.ownsRow B t sz v n xs) (hb : ∀ k, v.ownBlock = some k → w'.heap[k]? = w.heap[k]?) : w'.ownsRow B t sz v n xs := by
  obtain ⟨h1, ⟨rfl, h2⟩ | ⟨g, cap, cur, rfl, h3, h4, h5⟩⟩ := h
  · exact ⟨h1, .inl ⟨rfl, h2⟩⟩
  · exact ⟨h1, .inr ⟨g, cap, cur, rfl, h3, (hb g rfl).trans h4, h5⟩⟩
theorem ownsRow_cells {w : World} {B : Nat} {t : TypeId} {sz : Nat} {v : Value} {n : Nat} {xs : List Value} (h : w.ownsRow B t sz v n xs) : ∀ k, v.ownBlock = some k → ∃ o : Obj, w.heap[k]? = some o ∧ o.isCells = true := fun k hk => by
  obtain ⟨_, ⟨rfl, h2⟩ | ⟨g, cap, cur, rfl, h3, h4, h5⟩⟩ := h
  · cases hk
  · obtain rfl : g = k := by simpa [Value.ownBlock] using hk
    exact ⟨_, h4, rfl⟩
/-- A box that holds a slice of the call's own, as a range's invariant. -/
structure BoxI (w : World) (Bs : Nat) (tb t : TypeId) (sz n : Nat) (xs : List Value) (v : Value) (O : Nat → Prop) (X : World) : Prop where
  box : Boxed X Bs tb v
  row : X.ownsRow Bs t sz v n xs
  own : ∀ k, O k ↔ ownB Bs v k
  low : Below w.heap.size w X
section
variable {w X Y : World} {Bs : Nat} {tb t : TypeId} {sz n : Nat} {xs : List Value} {v : Value} {O : Nat → Prop}
theorem BoxI.cells (h : BoxI w Bs tb t sz n xs v O X) : ∀ k, O k → ∃ o : Obj, X.heap[k]? = some o ∧ o.isCells = true := fun k hk => by
  rcases (h.own k).1 hk with rfl | hk
  · exact ⟨_, h.box, rfl⟩
  · exact ownsRow_cells h.row k hk
theorem BoxI.step (h : BoxI w Bs tb t sz n xs v O X) (hb : Below w.heap.size X Y) (hk : ∀ k, O k → Y.heap[k]? = X.heap[k]?) : BoxI w Bs tb t sz n xs v O Y :=
  ⟨(hk Bs ((h.own Bs).2 (.inl rfl))).trans h.box, ownsRow_gen h.row fun k e => hk k ((h.own k).2 (.inr e)), h.own, h.low.trans hb⟩
end
end Go.Proofs.YtlncdmdffpaojaaGreatDoor

namespace Go.Proofs.YtlncdmdffpaojaaGreatDoor
open Go.RowKit

/-- What lies at a name of a directory's, and under it, each once. -/
def Blk (S : List (List Ent)) (P x : List UInt8) (b : List Ent) : Prop := (b.map pl).Nodup ∧ ∀ e, e ∈ b ↔ e ∈ stk S ∧ (pl e = cp13 P x ∨ und (pl e) (cp13 P x) = true)
/-- What lies under a directory, each once. -/
def SubOf (S : List (List Ent)) (P : List UInt8) (l : List Ent) : Prop := (l.map pl).Nodup ∧ ∀ e, e ∈ l ↔ e ∈ stk S ∧ und (pl e) P = true
/-- Name by name. -/
inductive BlkL (S : List (List Ent)) (P : List UInt8) : List (List UInt8) → List Ent → Prop
  | nil : BlkL S P [] []
  | snoc {ns : List (List UInt8)} {l : List Ent} {x : List UInt8} {b : List Ent} (h : BlkL S P ns l) (hb : Blk S P x b) : BlkL S P (ns ++ [x]) (l ++ b)
/-- A list without a path twice, of a tree's entries. -/
theorem len_sub13 {t b : List Ent} (hb : (b.map pl).Nodup) (ht : (t.map pl).Nodup) (h : ∀ e ∈ b, e ∈ t) : b.length ≤ t.length := by
  have hp : (b.map pl).Perm ((t.map pl).filter fun x => decide (x ∈ b.map pl)) := by
    refine (List.perm_ext_iff_of_nodup hb (ht.filter _)).2 fun x => ?_
    rw [List.mem_filter, decide_eq_true_iff]
    refine ⟨fun hx => ⟨?_, hx⟩, fun hx => hx.2⟩
    obtain ⟨e, he, rfl⟩ := List.mem_map.1 hx
    exact List.mem_map.2 ⟨e, h e he, rfl⟩
  have h1 := hp.length_eq
  have h2 := List.length_filter_le (fun x => decide (x ∈ b.map pl)) (t.map pl)
  rw [List.length_map] at h1 h2
  omega
theorem asc_nodup13 {t : List Ent} (h : Asc t) : (t.map pl).Nodup := List.pairwise_map.2 (h.imp fun h => lt8_ne h)
theorem tr_nodup13 {t : List Ent} (h : TR t) : (t.map pl).Nodup := asc_nodup13 h.1.2.1
section
variable {S : List (List Ent)} {P x : List UInt8} {f : Nat} {b l : List Ent} {ns : List (List UInt8)}
theorem Blk.len (hS : LkOK S) (h : Blk S P x b) : b.length ≤ 576 := by
  have h1 := len_sub13 h.1 (tr_nodup13 (tr_stk hS.2)) fun e he => ((h.2 e).1 he).1
  have h2 := stk_len hS.2
  have h3 := hS.1
  omega
theorem SubOf.len (hS : LkOK S) (h : SubOf S P l) : l.length ≤ 576 := by
  have h1 := len_sub13 h.1 (tr_nodup13 (tr_stk hS.2)) fun e he => ((h.2 e).1 he).1
  have h2 := stk_len hS.2
  have h3 := hS.1
  omega
/-- What lies at a name: an entry of the folded stack. -/
theorem DirAt.entry (h : DirAt S P f) (hx : x ∈ nmsV (stk S) P) : (fndAt S P x).1 ∈ stk S ∧ pl (fndAt S P x).1 = cp13 P x ∧ isP (cp13 P x) ∧ cp13 P x ≠ [47] ∧ (atS S (cp13 P x)).1 = 0 ∧ pcs (cp13 P x) = pcs P ++ [x] ∧ nm x = true := by
  obtain ⟨h1, h2⟩ := h.met (h.names hx)
  obtain ⟨c1, c2, _, _⟩ := cp_parts h.path h1 h2
  have h0 := (h.shows h1 h2).1 hx
  obtain ⟨a1, a2, _⟩ := look_all h.ok.2 _ c1
  have h3 := atV_some c1 c2 (a1 ▸ h0)
  obtain ⟨h4, h5⟩ := (fnd_some (tr_stk h.ok.2).1.2.1).1 h3
  have e : (fndAt S P x).1 = (atV (stk S) (cp13 P x)).2 := a2
  rw [e]
  refine ⟨h4, h5, c1, c2, h0, ?_, h1⟩
  unfold cp13
  exact pcs_pth fun y hy => by
    rcases List.mem_append.1 hy with hy | hy
    · exact h.path.2.2 y hy
    · obtain rfl : y = x := by simpa using hy
      exact h1
/-- A directory at a name. -/
theorem DirAt.child (h : DirAt S P f) (hx : x ∈ nmsV (stk S) P) (hk : (fndAt S P x).1.2.1 = 2) : DirAt S (cp13 P x) (fndAt S P x).2 := by
  obtain ⟨_, _, c1, _, h0, _⟩ := h.entry hx
  exact dir_at h.ok c1 h0 hk
theorem blk_dir (h : DirAt S P f) (hx : x ∈ nmsV (stk S) P) (hl : SubOf S (cp13 P x) l) : Blk S P x ((fndAt S P x).1 :: l) := by
  obtain ⟨h1, h2, c1, _⟩ := h.entry hx
  refine ⟨?_, fun e => ?_⟩
  · rw [List.map_cons, List.nodup_cons]
    refine ⟨fun hm => ?_, hl.1⟩
    obtain ⟨e, he, hpe⟩ := List.mem_map.1 hm
    have h9 := ((hl.2 e).1 he).2
    rw [hpe, h2, und_self] at h9
    cases h9
  · rw [List.mem_cons, hl.2 e]
    constructor
    · rintro (rfl | ⟨h3, h4⟩)
      · exact ⟨h1, .inl h2⟩
      · exact ⟨h3, .inr h4⟩
    · rintro ⟨h3, h4 | h4⟩
      · exact .inl (asc_inj (tr_stk h.ok.2).1.2.1 h3 h1 (h4.trans h2.symm))
      · exact .inr ⟨h3, h4⟩
theorem blk_file (h : DirAt S P f) (hx : x ∈ nmsV (stk S) P) (hk : (fndAt S P x).1.2.1 ≠ 2) : Blk S P x [(fndAt S P x).1] := by
  obtain ⟨h1, h2, c1, c2, _⟩ := h.entry hx
  have ht := tr_stk h.ok.2
  have hu := tr_under_file ht c2 (fun d hd hpd => by
    have he := asc_inj ht.1.2.1 hd h1 (hpd.trans h2.symm)
    cases hb : Go.Proofs.YtlncdmdffpaojaaGreatDoor.hd d with
    | false => rfl
    | true => exact absurd (by rw [← he]; exact (hd_tree11 ht hd).1 hb) hk)
  refine ⟨by simp, fun e => ?_⟩
  rw [List.mem_singleton]
  constructor
  · rintro rfl
    exact ⟨h1, .inl h2⟩
  · rintro ⟨h3, h4 | h4⟩
    · exact asc_inj ht.1.2.1 h3 h1 (h4.trans h2.symm)
    · rw [hu e h3] at h4
      cases h4
theorem und_pre13 {p q : List UInt8} (hq : isP q) (h : p = q ∨ und p q = true) : pcs q <+: pcs p := by
  rcases h with rfl | h
  · exact List.prefix_refl _
  · exact (und_iff.1 h).2.2.1
theorem BlkL.mem (h : BlkL S P ns l) : ∀ e, e ∈ l ↔ ∃ x ∈ ns, e ∈ stk S ∧ (pl e = cp13 P x ∨ und (pl e) (cp13 P x) = true) := by
  induction h with
  | nil => intro e; simp
  | snoc h hb ih =>
    intro e
    rw [List.mem_append, ih e, hb.2 e]
    constructor
    · rintro (⟨x, h1, h2⟩ | h1)
      · exact ⟨x, List.mem_append.2 (.inl h1), h2⟩
      · exact ⟨_, List.mem_append.2 (.inr (by simp)), h1⟩
    · rintro ⟨x, h1, h2⟩
      rcases List.mem_append.1 h1 with h1 | h1
      · exact .inl ⟨x, h1, h2⟩
      · rw [List.mem_singleton.1 h1] at h2
        exact .inr h2
theorem BlkL.nodup (hd : DirAt S P f) (h : BlkL S P ns l) (hn : ns.Nodup) (hm : ∀ x ∈ ns, x ∈ nmsV (stk S) P) : (l.map pl).Nodup := by
  induction h with
  | nil => simp
  | @snoc ns l x b h hb ih =>
    rw [List.nodup_append] at hn
    obtain ⟨n1, _, n3⟩ := hn
    rw [List.map_append, List.nodup_append]
    refine ⟨ih n1 fun y hy => hm y (List.mem_append.2 (.inl hy)), hb.1, fun p hp q hq hpq => ?_⟩
    subst hpq
    obtain ⟨e1, he1, rfl⟩ := List.mem_map.1 hp
    obtain ⟨e2, he2, hpe⟩ := List.mem_map.1 hq
    obtain ⟨y, hy, _, hy2⟩ := (h.mem e1).1 he1
    have hx2 := ((hb.2 e2).1 he2).2
    rw [hpe] at hx2
    obtain ⟨_, _, cy, _, _, py, _⟩ := hd.entry (hm y (List.mem_append.2 (.inl hy)))
    obtain ⟨_, _, cx, _, _, px, _⟩ := hd.entry (hm x (List.mem_append.2 (.inr (by simp))))
    have h1 := und_pre13 cy hy2
    have h2 := und_pre13 cx hx2
    rw [py] at h1
    rw [px] at h2
    have h3 := List.prefix_of_prefix_length_le h1 h2 (by simp)
    have h4 := h3.eq_of_length (by simp)
    have h5 : y = x := by simpa using h4
    exact n3 y hy x (by simp) h5
/-- All names: all that lies under the directory. -/
theorem BlkL.all (hd : DirAt S P f) (h : BlkL S P ns l) (hn : ns.Nodup) (hm : ∀ x, x ∈ ns ↔ x ∈ nmsV (stk S) P) : SubOf S P l := by
  refine ⟨h.nodup hd hn fun x hx => (hm x).1 hx, fun e => ?_⟩
  rw [h.mem e]
  have ht := tr_stk hd.ok.2
  constructor
  · rintro ⟨x, hx, h1, h2⟩
    refine ⟨h1, ?_⟩
    obtain ⟨_, _, cx, _, _, px, _⟩ := hd.entry ((hm x).1 hx)
    have h3 := und_pre13 cx h2
    rw [px] at h3
    have hpe := (rE_isP (ht.1.1 e h1)).1
    exact und_iff.2 ⟨hpe, hd.path, (List.prefix_append _ _).trans h3, fun e9 => by
      have := h3.length_le
      rw [← e9] at this
      simp at this
      omega⟩
  · rintro ⟨h1, h2⟩
    obtain ⟨hpe, _, h3, h4⟩ := und_iff.1 h2
    obtain ⟨r, hr⟩ := h3
    cases r with
    | nil => exact absurd (by simpa using hr) h4
    | cons x r =>
      have hxm : x ∈ pcs (pl e) := by rw [← hr]; simp
      have hx := hpe.2.2 x hxm
      have hlen : (pcs P).length < 6 := by
        have h5 := hpe.2.1
        rw [← hr, List.length_append, List.length_cons] at h5
        omega
      obtain ⟨c1, c2, c3, c4⟩ := cp_parts hd.path hx hlen
      have hpc : pcs (cp13 P x) = pcs P ++ [x] := by
        unfold cp13
        exact pcs_pth fun y hy => by
          rcases List.mem_append.1 hy with hy | hy
          · exact hd.path.2.2 y hy
          · obtain rfl : y = x := by simpa using hy
            exact hx
      by_cases he : pl e = cp13 P x
      · exact ⟨x, (hm x).2 (mem_nms.2 ⟨e, h1, by rw [he]; exact c3, by rw [he]; exact c4⟩), h1, .inl he⟩
      · have hu : und (pl e) (cp13 P x) = true := und_iff.2 ⟨hpe, c1, by rw [hpc, ← hr]; exact ⟨r, by simp⟩, fun e9 => he (isP.inj hpe c1 e9.symm)⟩
        obtain ⟨d, hd1, hd2, _⟩ := tr_above ht c2 _ e h1 rfl hu
        exact ⟨x, (hm x).2 (mem_nms.2 ⟨d, hd1, by rw [hd2]; exact c3, by rw [hd2]; exact c4⟩), h1, .inr hu⟩
end
/-- Under the root: all. -/
theorem sub_root {S : List (List Ent)} (hS : LkOK S) {l : List Ent} (h : SubOf S [47] l) : l.Perm (stk S) ∧ (l.map pl).Nodup := by
  have ht := tr_stk hS.2
  refine ⟨?_, h.1⟩
  have hnl : l.Nodup := (List.pairwise_map.1 h.1).imp fun h e => h (congrArg pl e)
  have hnt : (stk S).Nodup := (List.pairwise_map.1 (tr_nodup13 ht)).imp fun h e => h (congrArg pl e)
  refine (List.perm_ext_iff_of_nodup hnl hnt).2 fun e => ?_
  rw [h.2 e]
  refine ⟨fun h => h.1, fun he => ⟨he, ?_⟩⟩
  obtain ⟨p1, p2⟩ := rE_isP (ht.1.1 e he)
  rw [und_eq p1 isP_root, if_pos rfl]
  exact decide_eq_true p2
/-- Put in order: the folded stack. -/
theorem sorted_root {S : List (List Ent)} (hS : LkOK S) {l l' : List Ent} (h : SubOf S [47] l) (hp : l'.Perm l) (hs : l'.Pairwise fun x y => lt8 (pl y) (pl x) = false) : l' = stk S := by
  obtain ⟨h1, h2⟩ := sub_root hS h
  have hn : (l'.map pl).Nodup := (hp.map pl).nodup_iff.2 h2
  have hA : Asc l' := by
    have h3 := hs.and (List.pairwise_map.1 hn)
    refine h3.imp fun {a b} hab => ?_
    rcases lt8_tri (pl a) (pl b) with e | e | e
    · exact absurd e hab.2
    · exact e
    · rw [hab.1] at e
      cases e
  exact asc_ext hA (tr_stk hS.2).1.2.1 fun x => (hp.trans h1).mem_iff
end Go.Proofs.YtlncdmdffpaojaaGreatDoor

namespace Go.Proofs.YtlncdmdffpaojaaGreatDoor
open Go.RowKit

/-- What is asked of the first n operations: they wait for earlier ones alone, and their guards are among them. -/
def headOk (l : List Oper) (n : Nat) : Bool :=
  (List.range n).all fun i => match l[i]? with
    | some o => (o.after.all fun e => decide (e.on < i)) && (match o.guard with
      | some (j, _) => decide (j < n)
      | none => true)
    | none => false
theorem headOk_at {l : List Oper} {n i : Nat} (h : headOk l n = true) (hi : i < n) : ∃ o, l[i]? = some o ∧ (∀ e ∈ o.after, e.on < i) ∧ ∀ j b, o.guard = some (j, b) → j < n := by
  have h1 := List.all_eq_true.1 h i (List.mem_range.2 hi)
  cases ho : l[i]? with
  | none => rw [ho] at h1; cases h1
  | some o =>
    rw [ho] at h1
    simp only [Bool.and_eq_true] at h1
    refine ⟨o, rfl, fun e he => ?_, fun j b hg => ?_⟩
    · have := Array.all_eq_true_iff_forall_mem.1 h1.1 e he
      simpa using this
    · rw [hg] at h1
      simpa using h1.2
theorem take_at9 {l : List Oper} {n i : Nat} (hi : i < n) : (l.take n).toArray[i]? = l.toArray[i]? := by
  simp [hi]
theorem yielded_head {l : List Oper} {n j : Nat} (hj : j < n) (t : Array Value) : yielded (l.take n).toArray t j = yielded l.toArray t j := by
  unfold yielded
  rw [take_at9 hj]
theorem wanted_head {l : List Oper} {n : Nat} {o : Oper} (h : ∀ j b, o.guard = some (j, b) → j < n) (t : Array Value) : Region.wanted o (yielded (l.take n).toArray t) = Region.wanted o (yielded l.toArray t) := by
  unfold Region.wanted
  cases hg : o.guard with
  | none => rfl
  | some g =>
    obtain ⟨j, b⟩ := g
    simp only
    rw [yielded_head (h j b hg)]
theorem wpOp_head {P : Program} {l : List Oper} {n i : Nat} {C : World → Prop} {K : Act → Prop} {K' : Act → World → Prop} {Q : Exit → Act → World → Prop} {a : Act} {w : World} (hh : headOk l n = true) (hi : i < n) (hC : C w) (hK : ∀ a w', C w' → K a → K' a w')
    (h : qOp P (l.take n).toArray C i K a) : wpOp P l.toArray Q i K' a w := by
  obtain ⟨o, ho, _, hg⟩ := headOk_at hh hi
  have h0 : l.toArray[i]? = some o := by simpa using ho
  unfold qOp at h
  unfold wpOp
  rw [take_at9 hi, h0] at h
  rw [h0]
  simp only at h ⊢
  rw [wanted_head hg] at h
  split
  · rename_i hw
    rw [if_pos hw] at h
    exact .inl (Oper.wp_of_quiet hC hK h)
  · rename_i hw
    rw [if_neg hw] at h
    exact hK _ _ hC h
theorem getD_left {a b : Array Bool} {i : Nat} (h : i < a.size) (d : Bool) : (a ++ b).getD i d = a.getD i d := by
  rw [Array.getD_eq_getD_getElem?, Array.getD_eq_getD_getElem?, Array.getElem?_append_left h]
theorem least_open : ∀ (n : Nat) (p : Nat → Bool), (∃ i, i < n ∧ p i = false) → ∃ i, i < n ∧ p i = false ∧ ∀ j, j < i → p j = true := by
  intro n
  induction n with
  | zero => rintro p ⟨i, hi, _⟩; omega
  | succ n ih =>
    rintro p ⟨i, hi, hp⟩
    by_cases h : ∃ i, i < n ∧ p i = false
    · obtain ⟨j, h1, h2, h3⟩ := ih p h
      exact ⟨j, by omega, h2, h3⟩
    · have hin : i = n := by
        rcases Nat.lt_or_ge i n with h' | h'
        · exact absurd ⟨i, h', hp⟩ h
        · omega
      subst hin
      refine ⟨i, by omega, hp, fun j hj => ?_⟩
      cases hq : p j with
      | true => rfl
      | false => exact absurd ⟨j, hj, hq⟩ h
section
variable {P : Program} {l : List Oper} {n : Nat} {C : World → Prop} {Q : Exit → Act → World → Prop}
theorem any_head (hh : headOk l n = true) (hn : n < l.length) (hs : Region.sinkB .any l.toArray n = true) (hc : Region.chainB .any l.toArray n = true)
    (hseq : Region.seqB .any l.toArray (l.length - n) n (Array.replicate n true ++ Array.replicate (l.length - n) false) = true) :
    ∀ (f : Nat) (m : Array Bool) (a : Act) (w : World), m.size = n → m.toList.count false = f → HeadInv .any l.toArray n (m ++ Array.replicate (l.length - n) false) → C w →
      wpAnyQ P .any (l.take n).toArray C (fun a' => ∀ w', C w' → wpList P l.toArray Q (l.drop n) a' w') f m a → wpAny P .any l.toArray Q (f + (l.length - n)) (m ++ Array.replicate (l.length - n) false) a w := by
  intro f
  induction f with
  | zero =>
    intro m a w hm h0 _ hC h
    have hall : m = Array.replicate n true := by
      apply Array.ext'
      rw [Array.toList_replicate, List.eq_replicate_iff]
      refine ⟨by simpa using hm, fun b hb => ?_⟩
      cases b with
      | true => rfl
      | false => exact absurd hb (List.count_eq_zero.1 h0)
    subst hall
    rw [Nat.zero_add]
    have hd : (l.drop n).length = l.length - n := List.length_drop
    have := wpAny_of_seq (md := .any) (P := P) (Q' := Q) (ops := l.toArray) (l.drop n) n (Array.replicate n true ++ Array.replicate (l.length - n) false) a w (fun j => by simp [List.getElem?_drop]) (by rw [hd]; exact hseq) (h.2 w hC)
    rwa [hd] at this
  | succ f ih =>
    intro m a w hm hf inv hC h
    have hsome : ∃ i, i < n ∧ m.getD i true = false := by
      have : false ∈ m.toList := List.count_pos_iff.1 (by omega)
      obtain ⟨i, hi, he⟩ := List.mem_iff_getElem.1 this
      have hi' : i < m.size := by simpa using hi
      refine ⟨i, by omega, ?_⟩
      rw [Array.getD_eq_getD_getElem?, Array.getElem?_eq_getElem hi']
      simpa using he
    obtain ⟨i0, hi0, hp0, hleast⟩ := least_open n (fun i => m.getD i true) hsome
    have hun : (m ++ Array.replicate (l.length - n) false).getD i0 true = false := by rw [getD_left (by omega)]; exact hp0
    rw [show f + 1 + (l.length - n) = (f + (l.length - n)) + 1 by omega]
    refine ⟨fun hr => ?_, fun i hi => ?_⟩
    · obtain ⟨o, ho, haf, _⟩ := headOk_at hh hi0
      have : i0 ∈ Region.ready .any l.toArray (m ++ Array.replicate (l.length - n) false) := by
        rw [mem_ready]
        refine ⟨hun, o, by simpa using ho, fun e he _ => ?_⟩
        have h1 := haf e he
        have h2 := hleast e.on h1
        rw [getD_left (by omega)]
        have h3 : e.on < m.size := by omega
        rw [Array.getD_eq_getD_getElem?, Array.getElem?_eq_getElem h3] at h2 ⊢
        simpa using h2
      rw [hr] at this
      cases this
    · have hin : i < n := by
        rcases Nat.lt_or_ge i n with h' | h'
        · exact h'
        · exact absurd hi (tail_waits hs hc (by simpa using hn) inv _ i0 rfl hi0 hun i h')
      obtain ⟨hui, o, ho, haf⟩ := mem_ready.1 hi
      have hr' : i ∈ Region.ready .any (l.take n).toArray m := by
        rw [mem_ready]
        refine ⟨by rw [getD_left (by omega)] at hui; exact hui, o, by rw [take_at9 hin]; exact ho, fun e he hb => ?_⟩
        have h1 := haf e he hb
        obtain ⟨o', ho', haf', _⟩ := headOk_at hh hin
        obtain rfl : o' = o := by
          have : l.toArray[i]? = some o' := by simpa using ho'
          exact Option.some.inj (this.symm.trans ho)
        have h2 := haf' e he
        rw [getD_left (by omega)] at h1
        exact h1
      have hset : (m ++ Array.replicate (l.length - n) false).setIfInBounds i true = m.setIfInBounds i true ++ Array.replicate (l.length - n) false := by
        apply Array.ext'
        rw [Array.toList_setIfInBounds, Array.toList_append, Array.toList_append, Array.toList_setIfInBounds, List.set_append_left _ _ (by simp; omega)]
      have inv' := inv.set hi hin
      rw [hset] at inv' ⊢
      refine wpOp_head hh hin hC (fun a' w' hw' h' => ?_) (h.2 i hr')
      refine ih _ a' w' (by simpa using hm) ?_ inv' hw' h'
      have hmi : m.toList[i]? = some false := by
        have h3 : i < m.size := by omega
        rw [getD_left (by omega), Array.getD_eq_getD_getElem?, Array.getElem?_eq_getElem h3] at hui
        rw [Array.getElem?_toList, Array.getElem?_eq_getElem h3]
        simpa using hui
      obtain ⟨h4, h5⟩ := List.getElem?_eq_some_iff.1 hmi
      rw [Array.toList_setIfInBounds]
      have h6 : (m.toList.set i true).count false + 1 = m.toList.count false := by
        rw [List.set_eq_take_append_cons_drop, if_pos h4]
        conv => rhs; rw [← List.take_append_drop i m.toList, List.drop_eq_getElem_cons h4, h5]
        rw [List.count_append, List.count_append, List.count_cons, List.count_cons]
        simp
        omega
      omega
/-- The first n operations by OldQ, the others as a list. -/
theorem any_old_tail {a : Act} {w : World} (n : Nat) (hB : (Region.lexB .any (l.take n).toArray && headOk l n && decide (n < l.length) && Region.sinkB .any l.toArray n && Region.chainB .any l.toArray n && Region.seqB .any l.toArray (l.length - n) n (Array.replicate n true ++ Array.replicate (l.length - n) false)) = true)
    (h : wpQuiet P (l.take n).toArray (OldC w) (fun a' => ∀ w', OldC w w' → wpList P l.toArray Q (l.drop n) a' w') (l.take n) a) : wpAny P .any l.toArray Q l.toArray.size (Array.replicate l.toArray.size false) a w.drew := by
  simp only [Bool.and_eq_true, decide_eq_true_eq] at hB
  obtain ⟨⟨⟨⟨⟨hlex, hh⟩, hn⟩, hs⟩, hc⟩, hseq⟩ := hB
  simp only [Region.lexB, Bool.and_eq_true] at hlex
  have htl : (l.take n).length = n := by simp; omega
  have H := wpAnyQ_lex (C := OldC w) (md := .any) (P := P) (ops := (l.take n).toArray) hlex.1 (l.take n) 0 (Array.replicate (l.take n).toArray.size false) a (by simp) (by simpa using hlex.2) h
  have hrep : Array.replicate l.toArray.size false = Array.replicate n false ++ Array.replicate (l.length - n) false := by
    apply Array.ext'
    simp only [Array.toList_replicate, Array.toList_append, List.replicate_append_replicate]
    congr 1
    simp
    omega
  rw [htl] at H
  have hz : (l.take n).toArray.size = n := by simpa using htl
  rw [hz] at H
  have := any_head (P := P) (Q := Q) (C := OldC w) hh hn hs hc hseq n (Array.replicate n false) a w.drew (by simp) (by simp) ?_ ((Below.refl w.heap.size w).drew) H
  · rw [show n + (l.length - n) = l.toArray.size by simp; omega, ← hrep] at this
    exact this
  · rw [← hrep]
    refine ⟨by simp, fun j oj _ hl => ?_, fun t _ ht => ?_⟩
    · rw [getD_replicate_false] at hl
      cases hl
    · exact getD_in (by simpa using ht) (getD_replicate_false _ _)
/-- The first n operations by OldQ, the others as a list. -/
theorem wp_region_old_tail {id : Nat} {a : Act} {w : World} (n : Nat) (hm : P.follows .mixedOrders = true) (hB : (Region.lexB .any (l.take n).toArray && headOk l n && decide (n < l.length) && Region.sinkB .any l.toArray n && Region.chainB .any l.toArray n && Region.seqB .any l.toArray (l.length - n) n (Array.replicate n true ++ Array.replicate (l.length - n) false)) = true)
    (h : wpQuiet P (l.take n).toArray (OldC w) (fun a' => ∀ w', OldC w w' → wpList P l.toArray Q (l.drop n) a' w') (l.take n) a) : (Code.region id l.toArray true).wp P Q a w :=
  wp_region_any hm (any_old_tail n hB h)
end
end Go.Proofs.YtlncdmdffpaojaaGreatDoor

namespace Go.Proofs.YtlncdmdffpaojaaGreatDoor
open Go Go.RowKit

/-- No defer statement. -/
def noDefer (l : List Oper) : Bool := l.all fun o => match o.op with
  | .defer _ => false
  | _ => true
section
variable {P : Program} {Q : Exit → Act → World → Prop} {l n : Nat}
theorem opIn_round {o : Oper} {a : Act} {w : World} {K : Act → World → Prop} (hd : ∀ c, o.op ≠ .defer c) (h : o.wp P a w K Q) : o.wpIn (Fence.wide.inRound l) n P a w K Q := by
  refine ⟨fun _ _ => trivial, ?_⟩
  show o.uponIn (Fence.wide.inRound l) n P a K Q ((Oper.semAt (some l) a.eval o).run P w)
  rw [Oper.semAt_some l a.eval o hd]
  unfold Oper.wp at h
  generalize (execOp a.eval o).run P w = r at h
  cases r with
  | ok x w' =>
    cases x with
    | value v => exact h
    | skip => exact h
    | defer d => exact h
    | enter f args => exact ⟨fun h => (by cases h), CallsIn.inRound l (callsIn_wide.2 h)⟩
    | row row args =>
      refine ⟨fun h => (by cases h), fun c cs _ => ?_⟩
      obtain ⟨v, w2, h1, h2⟩ := h c cs
      exact ⟨v, w2, h1, stepsIn_wide.2 h2⟩
    | round => exact h.elim
    | _ => exact h.elim
  | halt x w' =>
    cases x <;> first | exact h | exact h.elim
theorem anyIn_round {md : Region.Mode} {ops : Array Oper} (hd : noDefer ops.toList = true) (hq : ¬ LetsOut Q) : ∀ (k : Nat) (m : Array Bool) (a : Act) (w : World), wpAny P md ops Q k m a w → wpAnyIn (Fence.wide.inRound l) n P md ops Q k m a w
  | 0, _, _, _, h => h
  | k + 1, m, a, w, h => by
    refine ⟨h.1, fun i hi => ?_⟩
    have h2 := h.2 i hi
    unfold wpOp at h2
    unfold wpOpIn
    cases ho : ops[i]? with
    | none =>
      rw [ho] at h2
      exact anyIn_round hd hq k _ _ _ h2
    | some o =>
      rw [ho] at h2
      simp only at h2 ⊢
      split
      · rename_i hw
        rw [if_pos hw] at h2
        rcases h2 with h2 | h2
        · have hdo : ∀ c, o.op ≠ .defer c := fun c e => by
            have hm : o ∈ ops.toList := by
              have := (Array.getElem?_eq_some_iff.1 ho)
              obtain ⟨h3, h4⟩ := this
              rw [← h4]
              simp
            have := List.all_eq_true.1 hd o hm
            rw [e] at this
            cases this
          exact opIn_round hdo (Oper.wp_mono (fun a w h => anyIn_round hd hq k _ a w h) h2)
        · exact absurd h2.2 hq
      · rename_i hw
        rw [if_neg hw] at h2
        exact ⟨fun _ _ => trivial, anyIn_round hd hq k _ _ _ h2⟩
/-- A region that draws, in a round: the first k operations by OldQ, the others as a list. -/
theorem round_old_tail {id : Nat} {a : Act} {w : World} {ol : List Oper} (k : Nat) (hm : P.follows .mixedOrders = true) (hd : noDefer ol = true) (hq : ¬ LetsOut Q) (hB : (Region.lexB .any (ol.take k).toArray && headOk ol k && decide (k < ol.length) && Region.sinkB .any ol.toArray k && Region.chainB .any ol.toArray k && Region.seqB .any ol.toArray (ol.length - k) k (Array.replicate k true ++ Array.replicate (ol.length - k) false)) = true)
    (h : wpQuiet P (ol.take k).toArray (OldC w) (fun a' => ∀ w', OldC w w' → wpList P ol.toArray Q (ol.drop k) a' w') (ol.take k) a) : (Code.region id ol.toArray true).wpIn (Fence.wide.inRound l) n P Q a w :=
  wpIn_region_any hm (anyIn_round (by simpa using hd) hq _ _ _ _ (any_old_tail k hB h))
end
end Go.Proofs.YtlncdmdffpaojaaGreatDoor

namespace Go.Proofs.YtlncdmdffpaojaaGreatDoor
open Go.RowKit Go.Maps

def BelowOK (S : List (List Ent)) (q : ByteArray) : Prop := ∀ (f : Nat) (a : Option Addr) (cap : Nat) (w : World), EtLaid w → Stk w a cap S → DirAt S q.data.toList f → Calls Tryz.prog 29 #[.slice a S.length cap, .string q, .int .i64 (f : Int)] w fun e w' => ∃ v l, e = .returned v ∧ OwnE w' w.heap.size v l ∧ SubOf S q.data.toList l ∧ Below w.heap.size w w'
theorem ownsRow_base {w : World} {B B' : Nat} {t : TypeId} {sz : Nat} {v : Value} {n : Nat} {xs : List Value} (h : w.ownsRow B t sz v n xs) (hb : B' ≤ B) : w.ownsRow B' t sz v n xs := by
  obtain ⟨h1, ⟨rfl, h2⟩ | ⟨g, cap, cur, rfl, h3, h4, h5⟩⟩ := h
  · exact ⟨h1, .inl ⟨rfl, h2⟩⟩
  · exact ⟨h1, .inr ⟨g, cap, cur, rfl, Nat.le_trans hb h3, h4, h5⟩⟩
theorem enc_one13 (l : List Ent) : ∀ u ∈ l.flatMap enc, u.oneCell' = true := fun u hu => by
  obtain ⟨e, _, hu⟩ := List.mem_flatMap.1 hu
  rcases List.mem_cons.1 hu with rfl | hu
  · rfl
  rcases List.mem_cons.1 hu with rfl | hu
  · rfl
  rcases List.mem_cons.1 hu with rfl | hu
  · rfl
  cases hu
theorem wp_append_run {P : Program} {o : Oper} {a : Act} {w w' : World} {K : Act → World → Prop} {Q : Exit → Act → World → Prop} {s x : Operand} {t : TypeId} {v1 x1 v' : Value} (ho : o.op = .call { callee := .builtin .append, args := #[s, x], argTypes := #[t, t] }) (hs : a.eval s = v1) (hx : a.eval x = x1)
    (hr : (Builtin.append_ #[t, t] o.type #[v1, x1]).run P w = .ok v' w') (h : K (a.put o.dst v') w') : o.wp P a w K Q := by
  unfold Oper.wp execOp
  simp only [ho, resolve, invoke, builtin, Sem.run_bind, Sem.run_pure, Result.andThen_ok, List.map_toArray, List.map_cons, List.map_nil, hs, hx, hr]
  exact h
/-- What lies under a directory, appended to what is there. -/
theorem app_sub13 {U w5 : World} {B : Nat} {v1 v2 : Value} {n : Nat} {xs : List Value} {sub : List Ent} (hv : Boxed U B 25 v1) (hrow : U.ownsRow B 34 3 v1 n xs) (h0 : 0 < n) (hb : Below U.heap.size U w5) (ho : OwnE w5 U.heap.size v2 sub) (hl : n + sub.length ≤ 5000000) :
    ∃ a2 c2 g3 c3 w6, v2 = .slice a2 sub.length c2 ∧ (Builtin.append_ #[25, 25] 25 #[v1, .slice a2 sub.length c2]).run Tryz.prog w5 = .ok (.slice (some ⟨g3, 0, none⟩) (n + sub.length) c3) w6 ∧ w5.cell? ⟨B, 0, none⟩ = some v1 ∧ w6.cell? ⟨B, 0, none⟩ = some v1 ∧ w6.frozen? ⟨B, 0, none⟩ = false ∧
      Boxed (w6.setCell ⟨B, 0, none⟩ (.slice (some ⟨g3, 0, none⟩) (n + sub.length) c3)) B 25 (.slice (some ⟨g3, 0, none⟩) (n + sub.length) c3) ∧ (w6.setCell ⟨B, 0, none⟩ (.slice (some ⟨g3, 0, none⟩) (n + sub.length) c3)).ownsRow B 34 3 (.slice (some ⟨g3, 0, none⟩) (n + sub.length) c3) (n + sub.length) (xs ++ sub.flatMap enc) ∧
      KeepsOthers U (w6.setCell ⟨B, 0, none⟩ (.slice (some ⟨g3, 0, none⟩) (n + sub.length) c3)) ∧ Below B U (w6.setCell ⟨B, 0, none⟩ (.slice (some ⟨g3, 0, none⟩) (n + sub.length) c3)) ∧ (∀ k < U.heap.size, ¬ ownB B v1 k → (w6.setCell ⟨B, 0, none⟩ (.slice (some ⟨g3, 0, none⟩) (n + sub.length) c3)).heap[k]? = U.heap[k]?) ∧ (∀ k, ownB B (.slice (some ⟨g3, 0, none⟩) (n + sub.length) c3) k → ownB B v1 k ∨ U.heap.size ≤ k) := by
  obtain ⟨ie, hie, hz, hsz9, hby⟩ := info_parts infoEn
  have hBU : B ≤ U.heap.size := Nat.le_of_lt hv.lt
  have hv5 : Boxed w5 B 25 v1 := (hb.block B hv.lt).trans hv
  have hrow5 : w5.ownsRow B 34 3 v1 n xs := ownsRow_gen hrow fun k e => hb.block k (World.ownsRow.lt hrow k e).2
  obtain ⟨a2, c2, hv2, hsrc, hnone⟩ : ∃ a2 c2, v2 = .slice a2 sub.length c2 ∧ (∀ ad, a2 = some ad → ∀ j u, (sub.flatMap enc)[j]? = some u → w5.cell? (ad.add j) = some u) ∧ (a2 = none → sub.length = 0 ∧ c2 = 0) := by
    have hoo := ho
    obtain ⟨_, ⟨rfl, h9⟩ | ⟨g, cap, cur, rfl, _⟩⟩ := ho
    · exact ⟨none, 0, by rw [h9], (fun ad e => by cases e), fun _ => ⟨h9, rfl⟩⟩
    · exact ⟨some ⟨g, 0, none⟩, cap, rfl, (fun ad e j u hu => by cases e; exact World.ownsRow.cells hoo (g := g) rfl j u hu), fun e => by cases e⟩
  obtain ⟨v3, w6, hr, h1, h2, h3⟩ := run_append13 (P := Tryz.prog) w5 B 25 25 34 ie _ 3 40 Tryz.underlying25 hie hz hsz9 hby rfl (by decide) v1 n xs hrow5 a2 sub.length c2 (sub.flatMap enc) (by
      have := ho.1
      exact this) hsrc hnone (enc_one13 sub) (by unfold maxLen; omega) (by omega) (by have := hb.size; omega)
  have hs3 : ∃ g3 c3, v3 = .slice (some ⟨g3, 0, none⟩) (n + sub.length) c3 := by
    obtain ⟨_, ⟨_, h9⟩ | ⟨g, cap, cur, rfl, _⟩⟩ := h1
    · omega
    · exact ⟨g, cap, rfl⟩
  obtain ⟨g3, c3, rfl⟩ := hs3
  have hne : some B ≠ v1.ownBlock := fun e => hv5.not_row (by decide) hrow5 e
  have hv6 : Boxed w6 B 25 v1 := (h2.block B hv5.lt hne).trans hv5
  refine ⟨a2, c2, g3, c3, w6, hv2, hr, hv5.cell, hv6.cell, hv6.frozen, hv6.set _, h1.kept (grownBy_setCell' w6 B _) (.inr (hv6.not_row (by decide) h1).symm), ?_, ?_, kept_append hb h2, grow_append hb h3⟩
  · refine (below_others hb).trans (KeepsOthers.trans (KeepsOthers.of_grownBy h2 fun j o e hj => ?_) (KeepsOthers.setCell _ _ _))
    obtain ⟨o', q1, q2⟩ := ownsRow_cells hrow5 j e
    rw [hj] at q1
    cases q1
    exact q2
  · refine ((hb.mono hBU).grown h2 (by have := hb.size; omega) fun k e => ?_).setCell (p := ⟨B, 0, none⟩) (Nat.le_refl _) _
    exact (World.ownsRow.lt hrow5 k e).1
attribute [local go_sem] Oper.semAt_some
set_option maxRecDepth 10000 in
set_option maxHeartbeats 8000000 in
theorem below_step13 (S : List (List Ent)) (q : ByteArray) (IH : ∀ q' : ByteArray, (pcs q'.data.toList).length = (pcs q.data.toList).length + 1 → BelowOK S q') : BelowOK S q := fun f a cap w hg h hD => by
  obtain ⟨r3, hr3⟩ : ∃ r, w.heap.size = r := ⟨_, rfl⟩
  obtain ⟨V1, hV1⟩ : ∃ V, w.alloc (.cells #[.slice a S.length cap] 22) = V := ⟨_, rfl⟩
  obtain ⟨V, hV⟩ : ∃ V, V1.alloc (.cells #[.slice none 0 0] 25) = V := ⟨_, rfl⟩
  have s1 : V1.heap.size = r3 + 1 := by rw [← hV1, ← hr3]; simp
  have s2 : V.heap.size = r3 + 2 := by rw [← hV]; simp; omega
  have b1 : Below w.heap.size w V1 := by rw [← hV1]; exact (Below.refl _ _).alloc (Nat.le_refl _) _
  have b2 : Below V1.heap.size V1 V := by rw [← hV]; exact (Below.refl _ _).alloc (Nat.le_refl _) _
  have bV : Below w.heap.size w V := b1.trans (b2.mono b1.size)
  have h1 : V1.heap[r3]? = some (.cells #[.slice a S.length cap] 22 (0, 0)) := by rw [← hV1, ← hr3]; exact heap_alloc_new _ _
  have h2 : V.heap[r3 + 1]? = some (.cells #[.slice none 0 0] 25 (0, 0)) := by rw [← hV, ← s1]; exact heap_alloc_new _ _
  have h1' := (b2.block r3 (by omega)).trans h1
  have HC := Lib.hid (And.intro h1' h2)
  have HBV := Lib.hid bV
  have HSV := Lib.hid (show w.heap.size = r3 ∧ V.heap.size = r3 + 2 from ⟨hr3, s2⟩)
  have HE := Lib.hid (h.below bV)
  have HSW := Lib.hid h
  have HG := Lib.hid hg
  have HDIR := Lib.hid hD
  have HIH := Lib.hid IH
  have x3 := cell_of8 h1' (j := 0) rfl
  clear hg h hD b1 b2 bV h1 h2 h1' s2 IH
  refine (callsIn_wide (n := 9)).1 ?_
  refine callsIn_of_wp_marks Tryz.func29 rfl trivial ?_ rfl
  simp only [Tryz.ntmps29, List.size_toArray, List.length_cons, List.length_nil, Nat.reduceAdd, Nat.reduceSub, Array.replicate_succ, Array.replicate_zero, List.push_toArray, List.append_toArray, List.nil_append, List.cons_append]
  refine wpIn_wide.2 ?_
  go_wp2_with fail
  refine (shown13 a S.length cap q f V).mono ?_
  rintro e W2 ⟨b, rfl, hb1, hb2, c1, c2, c3, hbW⟩
  have hw2 : Below w.heap.size w W2 := HBV.out.trans (hbW.mono HBV.out.size)
  have hseq := seq13 S a cap q f w W2 HG.out hw2 (HE.out.below hbW) HDIR.out b (b + 1) (b + 2) c1 c2 c3
  have hsz := HSV.out.1
  have hsV := HSV.out.2
  have HQ := Lib.hid (And.intro ((hbW.block r3 (by omega)).trans HC.out.1) ((hbW.block (r3 + 1) (by omega)).trans HC.out.2))
  have HLT := Lib.hid (show r3 + 1 < W2.heap.size by have := hbW.size; omega)
  clear hV hV1 hr3 s1 x3
  go_wp2_with fail
  refine wpIn_wide.1 (rangeLB (n := 3) (gf := 78) (lb := #[.pointer (some ⟨b, 0, none⟩), .pointer (some ⟨b + 1, 0, none⟩), .pointer (some ⟨b + 2, 0, none⟩)]) 9 (fun (x : NameOf S q.data.toList) M W => FdAt W M (fndAt S q.data.toList x.1)) (fun x M X Y hx hk => hk _ _ hx rfl) rfl (enters_of Tryz.func78 (by kernel_rfl) rfl) hseq hw2.size
    (fun pre O X => ∃ v l, BoxI w (r3 + 1) 25 34 3 l.length (l.flatMap enc) v O X ∧ BlkL S q.data.toList (pre.map (·.1)) l ∧ l.length ≤ pre.length * 576 ∧ X.heap[r3]? = some (.cells #[.slice a S.length cap] 22 (0, 0)))
    (fun _ _ _ => False) (ownB (r3 + 1) (.slice none 0 0))
    (fun pre O X hI => by
      obtain ⟨v, l, hI, _⟩ := hI
      exact hI.cells)
    (fun pre O X Y hI hsX hbX hk => by
      obtain ⟨v, l, hI, h1, h2, h3⟩ := hI
      exact ⟨v, l, hI.step (hbX.mono hw2.size) hk, h1, h2, (hbX.block r3 (by have := HLT.out; omega)).trans h3⟩)
    (fun _ _ _ _ hs _ _ _ => hs)
    ⟨_, [], ⟨HQ.out.2, World.ownsRow_nil _ _ _ _, fun _ => Iff.rfl, hw2⟩, .nil, by simp, HQ.out.1⟩
    (fun k hk => by
      rcases hk with rfl | hk
      · exact ⟨by omega, by omega⟩
      · cases hk)
    ?assign ?body ?done ?stop)
  case assign =>
    intro l x X K hK
    obtain ⟨F, hF⟩ : ∃ F, fndAt S q.data.toList x.1 = F := ⟨_, rfl⟩
    simp only [hF] at hK ⊢
    obtain ⟨⟨ep, ek, ed⟩, fl⟩ := F
    obtain ⟨Va, U, M, hVa, hM, hU, hv, hu, hbF⟩ := fd_box X ((ep, ek, ed), fl)
    have v0 := hv.c0
    have v1 := hv.c1
    have v2 := hv.c2
    have v3 := hv.c3
    have vf0 := hv.f0
    have vf1 := hv.f1
    have vf2 := hv.f2
    have vf3 := hv.f3
    have HK := Lib.hid (hK M U hbF hu)
    clear hK hF hv hu hbF
    simp only [List.setIfInBounds_toArray, List.set_cons_succ, List.set_cons_zero] at HK ⊢
    gi_wp2
    exact HK.out
  case stop =>
    rintro D c pre X _ _ h _
    exact h.elim
  case done =>
    rintro D ys O X hD ⟨hnd, hmem⟩ ⟨v, l, hI, hbl, _⟩ hK
    have hc := hI.box.cell
    have HS := Lib.hid (hbl.all HDIR.out hnd hmem)
    have hK2 : CellsKept X (X.putObj D (.deferred none)) := cellsKept_put _ hK rfl
    have HO := Lib.hid (ownsRow_base (ownsRow_gen (w' := X.putObj D (.deferred none)) hI.row fun k e => by
      obtain ⟨o, q1, q2⟩ := ownsRow_cells hI.row k e
      exact (hK2 k o q1 q2).trans q1.symm) (show w.heap.size ≤ r3 + 1 by omega))
    have HB9 := Lib.hid (hI.low.trans (below_put (k := D) (.deferred none) (by have := hw2.size; omega) hI.low.size))
    simp only [Exit.inBlock]
    go_wp2_with fail
    exact ret_marks13d rfl (run_takeDeferred hK) (results_tmp rfl _ _ _) ⟨v, l, rfl, HO.out, HS.out, HB9.out⟩
  case body =>
    rintro l' pre O x M W hsW ⟨v, l, hI, hbl, hlen, hs3⟩ hF hlt
    obtain ⟨e1, e2, e3, e4, e5, e6, e7⟩ := HDIR.out.entry x.2
    have HENT := Lib.hid e1
    have HFIL := Lib.hid (fun hk => blk_file HDIR.out x.2 hk)
    have HDIR2 := Lib.hid (fun (l : List Ent) (hl : SubOf S (cp13 q.data.toList x.1) l) => blk_dir HDIR.out x.2 hl)
    have HCH := Lib.hid (fun hk => HDIR.out.child x.2 hk)
    have HPL := Lib.hid (show (pcs (cp13 q.data.toList x.1)).length = (pcs q.data.toList).length + 1 by rw [e6]; simp)
    obtain ⟨F, hFd⟩ : ∃ F, fndAt S q.data.toList x.1 = F := ⟨_, rfl⟩
    simp only [hFd] at HFIL HDIR2 HCH hF e2 ⊢
    obtain ⟨⟨ep, ek, ed⟩, fl⟩ := F
    have HEP := Lib.hid (show ep.data.toList = cp13 q.data.toList x.1 from e2)
    have HI := Lib.hid hI
    have HBL := Lib.hid hbl
    have HLEN := Lib.hid hlen
    have HF := Lib.hid hF
    have HS3 := Lib.hid hs3
    have hv := hI.box
    have hrow := hI.row
    have hc := hv.cell
    have hsB : r3 + 1 ≤ W.heap.size := Nat.le_of_lt hv.lt
    have f0 := hF.c0
    have f1 := hF.c1
    have f2 := hF.c2
    have hll : l.length ≤ 4000000 := by omega
    have hm9 : l.length + 1 ≤ maxLen := by simp only [maxLen]; omega
    obtain ⟨ie, hie, hz, hsz9, hby⟩ := info_parts infoEn
    have HMN := Lib.hid (show ¬ ownB (r3 + 1) v M from fun h => by
      have hF9 : W.heap[M]? = _ := hF
      rcases h with rfl | h
      · have hb9 : W.heap[r3 + 1]? = _ := hv
        rw [hb9] at hF9
        injection hF9 with hF9
        injection hF9 with _ hF9
        cases hF9
      · obtain ⟨_, ⟨rfl, _⟩ | ⟨g, _, _, rfl, _, hgb, _⟩⟩ := hrow
        · cases h
        · obtain rfl : g = M := by simpa [Value.ownBlock] using h
          rw [hgb] at hF9
          injection hF9 with hF9
          injection hF9 with _ hF9
          cases hF9)
    have HMN3 := Lib.hid (show ¬ ownB (r3 + 1) v r3 from fun h => by
      rcases h with h | h
      · omega
      · obtain ⟨_, ⟨rfl, _⟩ | ⟨g, _, _, rfl, hg, _, _⟩⟩ := hrow
        · cases h
        · obtain rfl : g = r3 := by simpa [Value.ownBlock] using h
          omega)
    clear e1 e2 e3 e4 e5 e6 e7 hI hbl hlen hF hs3 hFd hsz
    simp only [List.setIfInBounds_toArray, List.set_cons_succ, List.set_cons_zero]
    have hbA : Below W.heap.size W (W.alloc (.cells #[.string ep, .int .i64 ek, .string ed] 34)) := (Below.refl _ _).alloc (Nat.le_refl _) _
    have HBA := Lib.hid hbA
    clear hbA
    by_cases hk2 : ek = 2
    · subst hk2
      gi_wp2_with (gi_at_builtin; refine wpi_append13 rfl _ _ 25 rfl (r3 + 1) 34 ie _ 3 40 Tryz.underlying25 hie hz hsz9 hby rfl (by decide) _ _ _ rfl (hrow.alloc _) (some ⟨W.heap.size, 0, none⟩) 1 1 (enc (ep, 2, ed)) rfl rfl (fun ad e j u hu => by cases e; rw [Addr.add_lit]; exact (enAt_new W ep 2 ed).range j u hu) (fun e => by cases e) (by simpa using enc_one13 [(ep, 2, ed)]) hm9 (by omega) (by simp; omega) ?_; intro v' w9 hown' hgrow hg9; obtain ⟨g', cap', rfl⟩ := ownsRow_succ hown'; obtain ⟨hv1, hv2, hr2, hkk, hb9⟩ := hv.appended (by decide) hrow hsB (Nat.le_refl _) hown' hgrow; have hc9 := hv1.cell; have hf9 := hv1.frozen; obtain ⟨U1, hU1⟩ : ∃ U, w9.setCell ⟨r3 + 1, 0, none⟩ (.slice (some ⟨g', 0, none⟩) (l.length + 1) cap') = U := ⟨_, rfl⟩; have hkp := kept_append (B := r3 + 1) (W := W) (V := W.alloc (.cells #[.string ep, .int .i64 2, .string ed] 34)) (v' := .slice (some ⟨g', 0, none⟩) (l.length + 1) cap') ((Below.refl _ _).alloc (Nat.le_refl _) _) hgrow; rw [hU1] at hv2 hr2 hkk hb9 hkp; have hF1 : FdAt U1 M ((ep, 2, ed), fl) := (hkp M HF.out.lt HMN.out).trans HF.out; have m1 := hF1.c1)
      have hmix : Tryz.prog.follows .mixedOrders = true := by kernel_rfl
      have hw0 := HSV.out.1
      have hbU : Below w.heap.size w U1 := HI.out.low.trans (hb9.mono (by omega))
      have hca := HIH.out ep (by rw [HEP.out]; exact HPL.out) fl a cap U1.drew (HG.out.below HG.out.lt hbU.drew) (HSW.out.below hbU.drew) (by rw [HEP.out]; exact HCH.out trivial)
      have cS : U1.cell? ⟨r3, 0, none⟩ = some (.slice a S.length cap) := (cell_of8 ((hkp r3 (by omega) HMN3.out).trans HS3.out) (j := 0) rfl).1
      have m0 := hF1.c0
      have m3 := hF1.c3
      have hn3 : ¬ ownB (r3 + 1) (.slice (some ⟨g', 0, none⟩) (l.length + 1) cap') r3 := fun h => by
        rcases h with h | h
        · omega
        · obtain rfl : g' = r3 := by simpa [Value.ownBlock] using h
          have := (World.ownsRow.lt hr2 g' rfl).1
          omega
      have hnM : ¬ ownB (r3 + 1) (.slice (some ⟨g', 0, none⟩) (l.length + 1) cap') M := fun h => by
        rcases h with h | h
        · exact HMN.out (.inl h)
        · obtain rfl : g' = M := by simpa [Value.ownBlock] using h
          obtain ⟨_, ⟨h9, _⟩ | ⟨g, _, _, h9, _, hgb, _⟩⟩ := hr2
          · cases h9
          · cases h9
            have hF9 : U1.heap[g']? = _ := hF1
            rw [hgb] at hF9
            injection hF9 with hF9
            injection hF9 with _ hF9
            cases hF9
      obtain ⟨SX, hSXd⟩ : ∃ SX : World → Prop, SX = fun X => X.cell? ⟨r3, 0, none⟩ = some (.slice a S.length cap) ∧ X.cell? ⟨M, 0, none⟩ = some (.string ep) ∧ X.cell? ⟨M, 3, none⟩ = some (.int .i64 (fl : Int)) := ⟨_, rfl⟩
      have hSX : ∀ {X : World}, X.heap[r3]? = U1.heap[r3]? → X.heap[M]? = U1.heap[M]? → SX X := fun {X} h1 h2 => by
        rw [hSXd]
        exact ⟨(World.cell?_of_block h1).trans cS, (World.cell?_of_block h2).trans m0, (World.cell?_of_block h2).trans m3⟩
      have hcall : Calls Tryz.prog 29 #[.slice a S.length cap, .string ep, .int .i64 (fl : Int)] U1.drew fun e w5 => ∃ a2 c2 g3 c3 w6 sub, e = .returned (.slice a2 (List.length (α := Ent) sub) c2) ∧ (Builtin.append_ #[25, 25] 25 #[.slice (some ⟨g', 0, none⟩) (l.length + 1) cap', .slice a2 sub.length c2]).run Tryz.prog w5 = .ok (.slice (some ⟨g3, 0, none⟩) (l.length + 1 + sub.length) c3) w6 ∧
          w5.cell? ⟨r3 + 1, 0, none⟩ = some (.slice (some ⟨g', 0, none⟩) (l.length + 1) cap') ∧ w6.cell? ⟨r3 + 1, 0, none⟩ = some (.slice (some ⟨g', 0, none⟩) (l.length + 1) cap') ∧ w6.frozen? ⟨r3 + 1, 0, none⟩ = false ∧ Hid (SubOf S (cp13 q.data.toList x.1) sub ∧ sub.length ≤ 576) ∧ Hid (SX w5 ∧ SX w6 ∧ SX (w6.setCell ⟨r3 + 1, 0, none⟩ (.slice (some ⟨g3, 0, none⟩) (l.length + 1 + sub.length) c3))) ∧
          Hid (Boxed (w6.setCell ⟨r3 + 1, 0, none⟩ (.slice (some ⟨g3, 0, none⟩) (l.length + 1 + sub.length) c3)) (r3 + 1) 25 (.slice (some ⟨g3, 0, none⟩) (l.length + 1 + sub.length) c3) ∧ (w6.setCell ⟨r3 + 1, 0, none⟩ (.slice (some ⟨g3, 0, none⟩) (l.length + 1 + sub.length) c3)).ownsRow (r3 + 1) 34 3 (.slice (some ⟨g3, 0, none⟩) (l.length + 1 + sub.length) c3) (l.length + 1 + sub.length) ((l.flatMap enc ++ enc (ep, 2, ed)) ++ sub.flatMap enc) ∧
            KeepsOthers U1 (w6.setCell ⟨r3 + 1, 0, none⟩ (.slice (some ⟨g3, 0, none⟩) (l.length + 1 + sub.length) c3)) ∧ Below (r3 + 1) U1 (w6.setCell ⟨r3 + 1, 0, none⟩ (.slice (some ⟨g3, 0, none⟩) (l.length + 1 + sub.length) c3)) ∧ (∀ k < U1.heap.size, ¬ ownB (r3 + 1) (.slice (some ⟨g', 0, none⟩) (l.length + 1) cap') k → (w6.setCell ⟨r3 + 1, 0, none⟩ (.slice (some ⟨g3, 0, none⟩) (l.length + 1 + sub.length) c3)).heap[k]? = U1.heap[k]?) ∧
            (∀ k, ownB (r3 + 1) (.slice (some ⟨g3, 0, none⟩) (l.length + 1 + sub.length) c3) k → ownB (r3 + 1) (.slice (some ⟨g', 0, none⟩) (l.length + 1) cap') k ∨ U1.heap.size ≤ k)) := by
        refine hca.mono ?_
        rintro e w5 ⟨v2, sub, rfl, ho, hs, hb⟩
        rw [HEP.out] at hs
        have hsl := hs.len HDIR.out.ok
        have hb5 : Below U1.heap.size U1 w5 := (Below.refl _ U1).drew.trans hb
        obtain ⟨a2, c2, g3, c3, w6, rfl, h1, h2, h3, h4, h5⟩ := app_sub13 hv2 hr2 (by omega) hb5 ho (by omega)
        have hk7 := h5.2.2.2.2.1
        have r7 := hk7 r3 (by have := hv2.lt; omega) hn3
        have m7 := hk7 M hF1.lt hnM
        have r6 := (Below.heap_setCell w6 ⟨r3 + 1, 0, none⟩ (.slice (some ⟨g3, 0, none⟩) (l.length + 1 + sub.length) c3) r3 (by show r3 ≠ r3 + 1; omega)).symm.trans r7
        have m6 := (Below.heap_setCell w6 ⟨r3 + 1, 0, none⟩ (.slice (some ⟨g3, 0, none⟩) (l.length + 1 + sub.length) c3) M (by show M ≠ r3 + 1; exact fun e => hnM (.inl e))).symm.trans m7
        have r5 := hb5.block r3 (by have := hv2.lt; omega)
        have m5 := hb5.block M hF1.lt
        exact ⟨a2, c2, g3, c3, w6, sub, rfl, h1, h2, h3, h4, ⟨hs, hsl⟩, ⟨hSX r5 m5, hSX r6 m6, hSX r7 m7⟩, h5⟩
      have HCALL := Lib.hid hcall
      have HU := Lib.hid (And.intro hv2 (And.intro hr2 (And.intro hkk (And.intro hb9 (And.intro hkp hg9)))))
      have cU := hv2.cell
      have HN3 := Lib.hid hn3
      clear hca hcall hSX hv2 hr2 hkk hb9 hkp hg9 hown' hgrow hv1 hc9 hf9 hv hrow hc f0 f1 f2 hF1 hU1 hn3 hnM
      refine wpIn_region_any hmix (anyIn_round (by kernel_rfl) (fun ⟨_, _, h⟩ => h) _ _ _ _ (wpAny_of_held (S := fun X => X.cell? ⟨r3, 0, none⟩ = some (.slice a S.length cap) ∧ X.cell? ⟨M, 0, none⟩ = some (.string ep) ∧ X.cell? ⟨M, 3, none⟩ = some (.int .i64 (fl : Int))) _ _ _ _ ?_))
      have hHeld : U1.drew.cell? ⟨r3, 0, none⟩ = some (.slice a S.length cap) ∧ U1.drew.cell? ⟨M, 0, none⟩ = some (.string ep) ∧ U1.drew.cell? ⟨M, 3, none⟩ = some (.int .i64 (fl : Int)) := ⟨cS, m0, m3⟩
      subst hSXd
      change wpAnyH _ _ _ _ _ 10 #[false, false, false, false, false, false, false, false, false, false] _ U1.drew
      refine wpAnyH_take (i := 1) (v := ?_) rfl (by kernel_rfl) (by kernel_rfl) (by kernel_rfl) (fun _ _ _ h => h) (Or.inl ⟨by rfl, ?_⟩) hHeld ?_
      rotate_left
      · intro X hX
        obtain ⟨x1, x2, x3⟩ := hX
        go_simp
        all_goals with_reducible rfl
      change wpAnyH _ _ _ _ _ _ _ { tmps := #[_, _, _, _, _, _, _, _, _, _, _, _, _, _, _, _, _, _, _, _, _, _, _, _, _, _, _, _, _, _, _, _, _, _, _], defers := _ } _
      refine wpAnyH_take (i := 2) (v := ?_) rfl (by kernel_rfl) (by kernel_rfl) (by kernel_rfl) (fun _ _ _ h => h) (Or.inl ⟨by rfl, ?_⟩) hHeld ?_
      rotate_left
      · intro X hX
        obtain ⟨x1, x2, x3⟩ := hX
        go_simp
        all_goals with_reducible rfl
      change wpAnyH _ _ _ _ _ _ _ { tmps := #[_, _, _, _, _, _, _, _, _, _, _, _, _, _, _, _, _, _, _, _, _, _, _, _, _, _, _, _, _, _, _, _, _, _, _], defers := _ } _
      refine wpAnyH_take (i := 3) (v := ?_) rfl (by kernel_rfl) (by kernel_rfl) (by kernel_rfl) (fun _ _ _ h => h) (Or.inl ⟨by rfl, ?_⟩) hHeld ?_
      rotate_left
      · intro X hX
        obtain ⟨x1, x2, x3⟩ := hX
        go_simp
        all_goals with_reducible rfl
      change wpAnyH _ _ _ _ _ _ _ { tmps := #[_, _, _, _, _, _, _, _, _, _, _, _, _, _, _, _, _, _, _, _, _, _, _, _, _, _, _, _, _, _, _, _, _, _, _], defers := _ } _
      refine wpAnyH_take (i := 4) (v := ?_) rfl (by kernel_rfl) (by kernel_rfl) (by kernel_rfl) (fun _ _ _ h => h) (Or.inl ⟨by rfl, ?_⟩) hHeld ?_
      rotate_left
      · intro X hX
        obtain ⟨x1, x2, x3⟩ := hX
        go_simp
        all_goals with_reducible rfl
      change wpAnyH _ _ _ _ _ _ _ { tmps := #[_, _, _, _, _, _, _, _, _, _, _, _, _, _, _, _, _, _, _, _, _, _, _, _, _, _, _, _, _, _, _, _, _, _, _], defers := _ } _
      refine wpAnyH_take (i := 5) (v := ?_) rfl (by kernel_rfl) (by kernel_rfl) (by kernel_rfl) (fun _ _ _ h => h) (Or.inl ⟨by rfl, ?_⟩) hHeld ?_
      rotate_left
      · intro X hX
        obtain ⟨x1, x2, x3⟩ := hX
        go_simp
        all_goals with_reducible rfl
      change wpAnyH _ _ _ _ _ _ _ { tmps := #[_, _, _, _, _, _, _, _, _, _, _, _, _, _, _, _, _, _, _, _, _, _, _, _, _, _, _, _, _, _, _, _, _, _, _], defers := _ } _
      refine wpAnyH_take (i := 6) (v := ?_) rfl (by kernel_rfl) (by kernel_rfl) (by kernel_rfl) (fun _ _ _ h => h) (Or.inl ⟨by rfl, ?_⟩) hHeld ?_
      rotate_left
      · intro X hX
        obtain ⟨x1, x2, x3⟩ := hX
        go_simp
        all_goals with_reducible rfl
      change wpAnyH _ _ _ _ _ _ _ { tmps := #[_, _, _, _, _, _, _, _, _, _, _, _, _, _, _, _, _, _, _, _, _, _, _, _, _, _, _, _, _, _, _, _, _, _, _], defers := _ } _
      change wpAnyH _ _ _ _ _ 4 #[false, true, true, true, true, true, true, false, false, false] { tmps := #[_, _, _, _, _, _, _, _, _, _, _, _, _, _, _, _, _, _, _, _, _, _, _, _, _, _, _, _, _, _, _, _, _, _, _], defers := [] } U1.drew
      refine wpAnyH_ready (rs := [0, 7]) (by kernel_rfl) (by simp) (AllReadyH.cons rfl (fun K hK => ?_) (AllReadyH.cons rfl (fun K hK => ?_) AllReadyH.nil))
      · go_simp
        refine hK.out _ _ hHeld (fun _ => ?_)
        change wpAnyH _ _ _ _ _ 3 #[true, true, true, true, true, true, true, false, false, false] { tmps := #[_, _, _, _, _, _, _, _, _, _, _, _, _, _, _, _, _, _, _, _, _, _, _, _, _, _, _, _, _, _, _, _, _, _, _], defers := [] } U1.drew
        refine wpAnyH_ready (rs := [7]) (by kernel_rfl) (by simp) (AllReadyH.cons rfl (fun _ hK2 => ?_) AllReadyH.nil)
        go_simp
        refine HCALL.out.mono ?_
        rintro e w5 ⟨a2, c2, g3, c3, w6, sub, rfl, hrun, hcb5, hcb6, hfb6, HSUB, HSX, HREST⟩
        go_simp
        refine hK2.out _ _ HSX.out.1 (fun _ => ?_)
        change wpAnyH _ _ _ _ _ 2 #[true, true, true, true, true, true, true, true, false, false] { tmps := #[_, _, _, _, _, _, _, _, _, _, _, _, _, _, _, _, _, _, _, _, _, _, _, _, _, _, _, _, _, _, _, _, _, _, _], defers := [] } w5
        refine wpAnyH_ready (rs := [8]) (by kernel_rfl) (by simp) (AllReadyH.cons rfl (fun _ hK3 => ?_) AllReadyH.nil)
        rw [if_pos (by rfl)]
        refine wp_append_run rfl rfl rfl hrun ?_
        refine hK3.out _ _ HSX.out.2.1 (fun _ => ?_)
        change wpAnyH _ _ _ _ _ 1 #[true, true, true, true, true, true, true, true, true, false] { tmps := #[_, _, _, _, _, _, _, _, _, _, _, _, _, _, _, _, _, _, _, _, _, _, _, _, _, _, _, _, _, _, _, _, _, _, _], defers := [] } w6
        refine wpAnyH_ready (rs := [9]) (by kernel_rfl) (by simp) (AllReadyH.cons rfl (fun _ hK4 => ?_) AllReadyH.nil)
        go_simp
        refine hK4.out _ _ HSX.out.2.2 (fun _ => ?_)
        refine wpAnyH_done (by kernel_rfl) ?_ _
        obtain ⟨hsub, hsl⟩ := HSUB.out
        obtain ⟨t1, t2, t3, t4, t5, t6⟩ := HREST.out
        obtain ⟨u1, u2, u3, u4, u5, u6⟩ := HU.out
        have hbx : Below w.heap.size W (w6.setCell ⟨r3 + 1, 0, none⟩ (.slice (some ⟨g3, 0, none⟩) (l.length + 1 + sub.length) c3)) := (u4.mono (by omega)).trans (t4.mono (by omega))
        have hgO : ∀ k, ownB (r3 + 1) (.slice (some ⟨g', 0, none⟩) (l.length + 1) cap') k → O k ∨ W.heap.size ≤ k := fun k hk => (grow_append HBA.out u6 k hk).imp_left (HI.out.own k).2
        have hblk := HDIR2.out sub hsub
        have hbl9 := hblk.len HDIR.out.ok
        refine ⟨⟨hbx, u3.trans t3, fun k hk hn => ?_⟩, ownB (r3 + 1) _, fun k hk => ?_, _, l ++ ((ep, 2, ed) :: sub), ⟨t1, ?_, fun _ => Iff.rfl, HI.out.low.trans hbx⟩, ?_, ?_, ?_⟩
        · refine (t5 k (by have := u3.size; omega) fun h => ?_).trans (u5 k hk fun h => hn ((HI.out.own k).2 h))
          rcases hgO k h with h9 | h9
          · exact hn h9
          · omega
        · rcases t6 k hk with h9 | h9
          · exact hgO k h9
          · exact .inr (by have := u3.size; omega)
        · have hle : (l ++ ((ep, (2 : Int), ed) :: sub)).length = l.length + 1 + sub.length := by simp; omega
          have hfm : (l ++ ((ep, (2 : Int), ed) :: sub)).flatMap enc = (l.flatMap enc ++ enc (ep, 2, ed)) ++ sub.flatMap enc := by simp
          rw [hle, hfm]
          exact t2
        · show BlkL S q.data.toList ((pre ++ [x]).map (·.1)) (l ++ ((ep, 2, ed) :: sub))
          rw [List.map_append]
          exact .snoc HBL.out hblk
        · have := HLEN.out
          simp at hbl9 ⊢
          omega
        · exact (t5 r3 (by have := HI.out.low.size; have := u3.size; omega) HN3.out).trans ((u5 r3 (by omega) HMN3.out).trans HS3.out)
      · go_simp
        refine HCALL.out.mono ?_
        rintro e w5 ⟨a2, c2, g3, c3, w6, sub, rfl, hrun, hcb5, hcb6, hfb6, HSUB, HSX, HREST⟩
        go_simp
        refine hK.out _ _ HSX.out.1 (fun _ => ?_)
        change wpAnyH _ _ _ _ _ 3 #[false, true, true, true, true, true, true, true, false, false] { tmps := #[_, _, _, _, _, _, _, _, _, _, _, _, _, _, _, _, _, _, _, _, _, _, _, _, _, _, _, _, _, _, _, _, _, _, _], defers := [] } w5
        refine wpAnyH_ready (rs := [0]) (by kernel_rfl) (by simp) (AllReadyH.cons rfl (fun _ hK2 => ?_) AllReadyH.nil)
        go_simp
        refine hK2.out _ _ HSX.out.1 (fun _ => ?_)
        change wpAnyH _ _ _ _ _ 2 #[true, true, true, true, true, true, true, true, false, false] { tmps := #[_, _, _, _, _, _, _, _, _, _, _, _, _, _, _, _, _, _, _, _, _, _, _, _, _, _, _, _, _, _, _, _, _, _, _], defers := [] } w5
        refine wpAnyH_ready (rs := [8]) (by kernel_rfl) (by simp) (AllReadyH.cons rfl (fun _ hK3 => ?_) AllReadyH.nil)
        rw [if_pos (by rfl)]
        refine wp_append_run rfl rfl rfl hrun ?_
        refine hK3.out _ _ HSX.out.2.1 (fun _ => ?_)
        change wpAnyH _ _ _ _ _ 1 #[true, true, true, true, true, true, true, true, true, false] { tmps := #[_, _, _, _, _, _, _, _, _, _, _, _, _, _, _, _, _, _, _, _, _, _, _, _, _, _, _, _, _, _, _, _, _, _, _], defers := [] } w6
        refine wpAnyH_ready (rs := [9]) (by kernel_rfl) (by simp) (AllReadyH.cons rfl (fun _ hK4 => ?_) AllReadyH.nil)
        go_simp
        refine hK4.out _ _ HSX.out.2.2 (fun _ => ?_)
        refine wpAnyH_done (by kernel_rfl) ?_ _
        obtain ⟨hsub, hsl⟩ := HSUB.out
        obtain ⟨t1, t2, t3, t4, t5, t6⟩ := HREST.out
        obtain ⟨u1, u2, u3, u4, u5, u6⟩ := HU.out
        have hbx : Below w.heap.size W (w6.setCell ⟨r3 + 1, 0, none⟩ (.slice (some ⟨g3, 0, none⟩) (l.length + 1 + sub.length) c3)) := (u4.mono (by omega)).trans (t4.mono (by omega))
        have hgO : ∀ k, ownB (r3 + 1) (.slice (some ⟨g', 0, none⟩) (l.length + 1) cap') k → O k ∨ W.heap.size ≤ k := fun k hk => (grow_append HBA.out u6 k hk).imp_left (HI.out.own k).2
        have hblk := HDIR2.out sub hsub
        have hbl9 := hblk.len HDIR.out.ok
        refine ⟨⟨hbx, u3.trans t3, fun k hk hn => ?_⟩, ownB (r3 + 1) _, fun k hk => ?_, _, l ++ ((ep, 2, ed) :: sub), ⟨t1, ?_, fun _ => Iff.rfl, HI.out.low.trans hbx⟩, ?_, ?_, ?_⟩
        · refine (t5 k (by have := u3.size; omega) fun h => ?_).trans (u5 k hk fun h => hn ((HI.out.own k).2 h))
          rcases hgO k h with h9 | h9
          · exact hn h9
          · omega
        · rcases t6 k hk with h9 | h9
          · exact hgO k h9
          · exact .inr (by have := u3.size; omega)
        · have hle : (l ++ ((ep, (2 : Int), ed) :: sub)).length = l.length + 1 + sub.length := by simp; omega
          have hfm : (l ++ ((ep, (2 : Int), ed) :: sub)).flatMap enc = (l.flatMap enc ++ enc (ep, 2, ed)) ++ sub.flatMap enc := by simp
          rw [hle, hfm]
          exact t2
        · show BlkL S q.data.toList ((pre ++ [x]).map (·.1)) (l ++ ((ep, 2, ed) :: sub))
          rw [List.map_append]
          exact .snoc HBL.out hblk
        · have := HLEN.out
          simp at hbl9 ⊢
          omega
        · exact (t5 r3 (by have := HI.out.low.size; have := u3.size; omega) HN3.out).trans ((u5 r3 (by omega) HMN3.out).trans HS3.out)
    · have hk9 : (ek == 2) = false := by simpa using hk2
      gi_wp2_with (gi_at_builtin; refine wpi_append13 rfl _ _ 25 rfl (r3 + 1) 34 ie _ 3 40 Tryz.underlying25 hie hz hsz9 hby rfl (by decide) _ _ _ rfl (hrow.alloc _) (some ⟨W.heap.size, 0, none⟩) 1 1 (enc (ep, ek, ed)) rfl rfl (fun ad e j u hu => by cases e; rw [Addr.add_lit]; exact (enAt_new W ep ek ed).range j u hu) (fun e => by cases e) (by simpa using enc_one13 [(ep, ek, ed)]) hm9 (by omega) (by simp; omega) ?_; intro v' w9 hown' hgrow hg9; obtain ⟨g', cap', rfl⟩ := ownsRow_succ hown'; obtain ⟨hv1, hv2, hr2, hkk, hb9⟩ := hv.appended (by decide) hrow hsB (Nat.le_refl _) hown' hgrow; have hc9 := hv1.cell; have hf9 := hv1.frozen; obtain ⟨U1, hU1⟩ : ∃ U, w9.setCell ⟨r3 + 1, 0, none⟩ (.slice (some ⟨g', 0, none⟩) (l.length + 1) cap') = U := ⟨_, rfl⟩; have hkp := kept_append (B := r3 + 1) (W := W) (V := W.alloc (.cells #[.string ep, .int .i64 ek, .string ed] 34)) (v' := .slice (some ⟨g', 0, none⟩) (l.length + 1) cap') ((Below.refl _ _).alloc (Nat.le_refl _) _) hgrow; rw [hU1] at hv2 hr2 hkk hb9 hkp; have hF1 : FdAt U1 M ((ep, ek, ed), fl) := (hkp M HF.out.lt HMN.out).trans HF.out; have m1 := hF1.c1)
      have hbx := hb9.mono (show w.heap.size ≤ r3 + 1 by have := HSV.out.1; omega)
      refine ⟨⟨hbx, hkk, fun k hk hn => hkp k hk fun h => hn ((HI.out.own k).2 h)⟩, ownB (r3 + 1) _, fun k hk => (grow_append HBA.out hg9 k hk).imp_left (HI.out.own k).2, _, l ++ [(ep, ek, ed)], ⟨hv2, by simpa using hr2, fun _ => Iff.rfl, HI.out.low.trans hbx⟩, ?_, ?_, (hkp r3 (by omega) HMN3.out).trans HS3.out⟩
      · show BlkL S q.data.toList ((pre ++ [x]).map (·.1)) (l ++ [(ep, ek, ed)])
        rw [List.map_append]
        exact .snoc HBL.out (HFIL.out hk2)
      · have := HLEN.out
        simp
        omega
theorem below13 (S : List (List Ent)) : ∀ (d : Nat) (q : ByteArray), 6 ≤ (pcs q.data.toList).length + d → BelowOK S q
  | 0, q, hd => below_step13 S q fun q' hq f a cap w _ _ hD => by
    have := hD.path.2.1
    omega
  | d + 1, q, hd => below_step13 S q fun q' hq => below13 S d q' (by omega)
end Go.Proofs.YtlncdmdffpaojaaGreatDoor

namespace Go.Proofs.YtlncdmdffpaojaaGreatDoor
open Go.RowKit Go.Sort

set_option maxHeartbeats 1000000 in
theorem sclo13 (x y : Ent) (W : World) : Calls Tryz.prog 31 #[enV x, enV y] W fun e w' => e = .returned (.int .i64 (cf10 x y)) ∧ ∃ q os', w' = Go.Sort.grow (W.drewN q) os' := by
  have HC := Lib.hid (fun W' => cmp10 x.1 y.1 W')
  obtain ⟨r, hr⟩ : ∃ r, cf10 x y = r := ⟨_, rfl⟩
  have HR := Lib.hid hr
  unfold cf10 pl at hr
  rw [hr] at HC
  rw [HR.out]
  clear hr HR
  go_enter Tryz.func31, Tryz.ntmps31
  go_wp2_with fail
  refine (HC.out _).mono ?_
  rintro e w' ⟨rfl, rfl⟩
  go_wp2
  go_ret
  exact ⟨rfl, 0, _, by rw [Go.Sort.alloc_eq_grow, Go.Sort.alloc_eq_grow, Go.Sort.grow_grow]; rfl⟩
set_option maxRecDepth 100000 in
theorem sort13e (B : Nat) (v : Value) (l : List Ent) (w : World) (hown : OwnE w B v l) (hB : B ≤ w.heap.size) (hl : l.length ≤ 100000) :
    Calls Tryz.prog 30 #[v, .func (.func 31) #[] #[]] w fun e w' => e = .returned (.tuple #[]) ∧ ∃ (l' : List Ent) (a : Option Addr) (cap : Nat), v = .slice a l'.length cap ∧ l'.Perm l ∧ l'.Pairwise (fun x y => lt8 (pl y) (pl x) = false) ∧ Ents w' a cap l' ∧ Below B w w' := by
  by_cases h0 : l = []
  · subst h0
    obtain ⟨a, cap, rfl, hE⟩ := ents_of_own hown
    refine (AnyF.slices_SortFunc_none Tryz.sortEnt a cap _ w).mono ?_
    rintro e w' ⟨rfl, rfl⟩
    exact ⟨rfl, [], a, cap, rfl, .refl _, .nil, hE, Below.refl _ _⟩
  · obtain ⟨_, ⟨_, hn⟩ | ⟨g, cap, cur, rfl, hg, hbk, hc, _, _, ht⟩⟩ := hown
    · exact absurd (List.length_eq_zero_iff.1 hn) h0
    · have hH := holdsK_own hbk ht
      have hlt : g < w.heap.size := (Array.getElem?_eq_some_iff.1 hbk).1
      have hS := AnyQ.slices_SortFunc Tryz.sortEnt 3 (by intro w; kernel_rfl) (by intro w; kernel_rfl) enc (fun _ => rfl) (fun x v hv => by simp at hv; rcases hv with rfl | rfl | rfl <;> rfl) cf10 swo10 31 #[] g 0 cap l.toArray w (enters_of Tryz.func31 (by kernel_rfl) rfl) (fun _ _ _ _ x y => sclo13 x y _) hH hlt (by simp; omega)
      rw [List.size_toArray] at hS
      refine Calls.mono hS ?_
      rintro e w' ⟨rfl, d', n, os, ⟨hp1, _, hp3⟩, hs, rfl⟩
      have he : d'.size = l.length := by simpa using hp1
      have e1 : d'.extract 0 l.length = d' := by rw [← he, Array.extract_size]
      have e2 : l.toArray.extract 0 l.length = l.toArray := by
        have h := Array.extract_size (xs := l.toArray)
        rwa [List.size_toArray] at h
      rw [e1, e2] at hp3
      refine ⟨rfl, d'.toList, some ⟨g, 0, none⟩, cap, by simp [he], by simpa using hp3, ?_, ?_, below_putRowK hg hB⟩
      · rw [List.pairwise_iff_getElem]
        intro i j hi hj hij
        have h1 := hs i j (Nat.zero_le _) hij (by rw [← he]; simpa using hj)
        rw [getElem!_pos d' j (by simpa using hj), getElem!_pos d' i (by simpa using hi)] at h1
        unfold ltOf cf10 at h1
        rw [compare_lt] at h1
        simpa using h1
      · refine ents_holdsK ?_ (by unfold sortWorldK putRowK grow; simp; omega) (by rw [he]; exact hc)
        unfold sortWorldK
        exact holdsK_grow enc 3 _ _ _ _ _ (by unfold putRowK; simpa using hlt) (holdsK_putRowK enc 3 _ _ _ _ _ (holdsK_ahead enc 3 w n g 0 _ hH) (by simp [he]))
end Go.Proofs.YtlncdmdffpaojaaGreatDoor

namespace Go.Proofs.YtlncdmdffpaojaaGreatDoor
open Go.RowKit Go.Maps

set_option maxRecDepth 10000 in
set_option maxHeartbeats 8000000 in
theorem walk13c : Walk13 := fun S a cap w hg h hl hs => by
  have HD := Lib.hid (dir12 S a cap ⟨#[47]⟩ w hg h hl hs (by decide))
  have HE := Lib.hid h
  have HG := Lib.hid hg
  obtain ⟨d, hd⟩ : ∃ d, drV S (⟨#[47]⟩ : ByteArray).data.toList = d := ⟨_, rfl⟩
  rw [hd] at HD
  have HDV := Lib.hid hd
  have HL := Lib.hid (wkV_tree S)
  obtain ⟨R, hR⟩ : ∃ R, wkV S = R := ⟨_, rfl⟩
  have HR := Lib.hid hR
  rw [hR] at HL ⊢
  obtain ⟨n, f⟩ := d
  clear hg h hl hs hd hR
  go_enter Tryz.func13, Tryz.ntmps13
  go_wp2_with fail
  refine (HD.out).mono ?_
  rintro e w1 ⟨er, rfl, her, hb⟩
  have HE1 := Lib.hid (HE.out.below hb)
  have HG1 := Lib.hid (HG.out.below HG.out.lt hb)
  have HB1 := Lib.hid hb
  clear hb
  rcases her with ⟨h0, rfl⟩ | ⟨h0, herr⟩
  · have h0 : n = 0 := h0
    subst h0
    have HDIR := Lib.hid (dir_dr HDV.out)
    go_wp2_with fail
    refine (below13 S 6 ⟨#[47]⟩ (by decide) f a cap w1 HG1.out HE1.out HDIR.out).mono ?_
    rintro e w2 ⟨v, l, rfl, ho, hsub, hb⟩
    have HSUB := Lib.hid (show SubOf S [47] l from hsub)
    have HB2 := Lib.hid (HB1.out.trans (hb.mono HB1.out.size))
    have HO := Lib.hid ho
    have HSZ := Lib.hid (show w.heap.size ≤ w1.heap.size ∧ w1.heap.size ≤ w2.heap.size from ⟨HB1.out.size, hb.size⟩)
    clear ho hsub hb
    go_wp2_with fail
    refine (sort13e w1.heap.size v l w2 HO.out HSZ.out.2 (by have := HSUB.out.len HDIR.out.ok; omega)).mono ?_
    rintro e w3 ⟨rfl, l', a9, c9, rfl, hp, hs, hE9, hb⟩
    have HX := Lib.hid (show l' = R by
      rw [sorted_root HDIR.out.ok HSUB.out hp hs, ← HR.out]
      exact (if_pos HDIR.out.ok).symm)
    have HB3 := Lib.hid (HB2.out.trans (hb.mono HSZ.out.1))
    have HE9 := Lib.hid hE9
    clear hp hs hE9 hb
    go_wp2
    go_ret
    have hX := HX.out
    subst hX
    exact ⟨a9, c9, rfl, HE9.out, HB3.out⟩
  · have hn : R = [] := by
      rw [← HR.out]
      unfold wkV
      rw [if_neg]
      intro hok
      have h9 := HDV.out
      unfold drV at h9
      rw [lkV_ok hok] at h9
      rw [atS_root] at h9
      exact h0 (congrArg Prod.fst h9).symm
    obtain ⟨u, z, rfl⟩ := herr.iface
    subst hn
    clear h0 herr HD HDV
    go_wp2
    go_ret
    exact ⟨none, 0, rfl, ents_nil _ _ _, HB1.out⟩
end Go.Proofs.YtlncdmdffpaojaaGreatDoor
