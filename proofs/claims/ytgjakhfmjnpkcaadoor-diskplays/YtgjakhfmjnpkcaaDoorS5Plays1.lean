/-
  DiskPlays, prepared: the document's disk beside the landed one; loads of structs as rules for the walk. No condition.
-/
import Derived.Test.YtgjakhfmjnpkcaaDoorS5Settle2
import Derived.Test.YtgjakhfmjnpkcaaDoorS5Law
namespace Go.Proofs.YtgjakhfmjnpkcaaDoor
open Go.RowKit Go.Maps

/-- n cells lie there; they. -/
def IsCh (n : Nat) (w : World) : Value → Prop
  | .pointer (some ⟨b, o, none⟩) => ∃ cs : List Value, cs.length = n ∧ w.rangeAt b o cs
  | _ => False
noncomputable def chAt (n : Nat) (w : World) (v : Value) : List Value := by
  classical
  exact match v with
  | .pointer (some ⟨b, o, none⟩) => if h : ∃ cs : List Value, cs.length = n ∧ w.rangeAt b o cs then h.choose else []
  | _ => []
theorem isCh {n : Nat} {w : World} {b o : Nat} {cs : List Value} (h : w.rangeAt b o cs) (hl : cs.length = n) : IsCh n w (.pointer (some ⟨b, o, none⟩)) := ⟨cs, hl, h⟩
theorem chAt_eq {n : Nat} {w : World} {b o : Nat} {cs : List Value} (h : w.rangeAt b o cs) (hl : cs.length = n) : chAt n w (.pointer (some ⟨b, o, none⟩)) = cs := by
  have hx : ∃ cs : List Value, cs.length = n ∧ w.rangeAt b o cs := ⟨cs, hl, h⟩
  unfold chAt
  simp only [dif_pos hx]
  have hc := hx.choose_spec
  apply List.ext_getElem?
  intro j
  by_cases hj : j < n
  · have h1 := hc.2 j _ (List.getElem?_eq_getElem (by rw [hc.1]; exact hj))
    have h2 := h j _ (List.getElem?_eq_getElem (by rw [hl]; exact hj))
    rw [h1] at h2
    rw [List.getElem?_eq_getElem (by rw [hc.1]; exact hj), List.getElem?_eq_getElem (by rw [hl]; exact hj)]
    exact h2
  · rw [List.getElem?_eq_none (by rw [hc.1]; omega), List.getElem?_eq_none (by rw [hl]; omega)]
theorem actSize : (Tryd.prog.info? 40).map (·.size) = some 67 := by kernel_rfl
theorem ldw_rd {d : Option Tmp} {ty : TypeId} {pos : String} {af : Array Edge} {g : Option (Nat × Bool)} {x : Operand} {a : Act} {w : World} {K : Act → World → Prop} {Q : Exit → Act → World → Prop} (h : IsCh 6 w (a.eval x)) :
    Oper.wp Tryd.prog { dst := d, op := .load 35 x, type := ty, pos := pos, after := af, guard := g } a w K Q = K (a.put d (.agg (chAt 6 w (a.eval x)).toArray)) w := by
  have hl : (Instr.loadAt 35 (a.eval x)).run Tryd.prog w = .ok (.agg (chAt 6 w (a.eval x)).toArray) w := by
    match a.eval x, h with
    | .pointer (some ⟨b, o, none⟩), ⟨cs, hl, hr⟩ =>
      rw [chAt_eq hr hl]
      exact run_loadAt_mid w b o 35 cs _ hr Tryd.underlying35 rfl (by rw [rdSize, hl])
  unfold Oper.wp execOp
  simp only [Sem.run_bind, Sem.run_pure, Result.andThen_ok, hl]
  rfl
theorem ldw_act {d : Option Tmp} {ty : TypeId} {pos : String} {af : Array Edge} {g : Option (Nat × Bool)} {x : Operand} {a : Act} {w : World} {K : Act → World → Prop} {Q : Exit → Act → World → Prop} (h : IsCh 67 w (a.eval x)) :
    Oper.wp Tryd.prog { dst := d, op := .load 40 x, type := ty, pos := pos, after := af, guard := g } a w K Q = K (a.put d (.agg (chAt 67 w (a.eval x)).toArray)) w := by
  have hl : (Instr.loadAt 40 (a.eval x)).run Tryd.prog w = .ok (.agg (chAt 67 w (a.eval x)).toArray) w := by
    match a.eval x, h with
    | .pointer (some ⟨b, o, none⟩), ⟨cs, hl, hr⟩ =>
      rw [chAt_eq hr hl]
      exact run_loadAt_mid w b o 40 cs _ hr Tryd.underlying40 rfl (by rw [actSize, hl])
  unfold Oper.wp execOp
  simp only [Sem.run_bind, Sem.run_pure, Result.andThen_ok, hl]
  rfl
/-- n cells may be written there; a value of n one-cell parts. -/
def ThereC (n : Nat) (w : World) : Value → Prop
  | .pointer (some ⟨b, o, none⟩) => w.there b o n
  | _ => False
def IsCv (n : Nat) (u : Value) : Prop := ∃ cs : List Value, cs.length = n ∧ (∀ v ∈ cs, v.oneCell' = true) ∧ u = .agg cs.toArray
theorem thereC_ptr (n : Nat) (w : World) (b o : Nat) : ThereC n w (.pointer (some ⟨b, o, none⟩)) = w.there b o n := rfl
theorem stw_rd {d : Option Tmp} {ty : TypeId} {pos : String} {af : Array Edge} {g : Option (Nat × Bool)} {x y : Operand} {a : Act} {w : World} {K : Act → World → Prop} {Q : Exit → Act → World → Prop} (h : ThereC 6 w (a.eval x)) (hu : IsCv 6 (a.eval y)) :
    Oper.wp Tryd.prog { dst := d, op := .store 35 x y, type := ty, pos := pos, after := af, guard := g } a w K Q = K (a.put d undef) (setV w (a.eval x) (a.eval y)) := by
  have hl : (Instr.storeAt 35 (a.eval x) (a.eval y)).run Tryd.prog w = .ok () (setV w (a.eval x) (a.eval y)) := by
    obtain ⟨cs, hl, h1, e⟩ := hu
    rw [e]
    match a.eval x, h with
    | .pointer (some ⟨b, o, none⟩), h =>
      have := run_storeAt_mid (P := Tryd.prog) w b o 35 cs.toArray (by rw [List.size_toArray, hl]; exact h) (by rw [rdSize, List.size_toArray, hl]) (all_oneCell_toArray h1)
      rw [setV_ptr]
      simpa [cellsV] using this
  unfold Oper.wp execOp
  simp only [Sem.run_bind, Sem.run_pure, Result.andThen_ok, hl]
  rfl
theorem stw_act {d : Option Tmp} {ty : TypeId} {pos : String} {af : Array Edge} {g : Option (Nat × Bool)} {x y : Operand} {a : Act} {w : World} {K : Act → World → Prop} {Q : Exit → Act → World → Prop} (h : ThereC 67 w (a.eval x)) (hu : IsCv 67 (a.eval y)) :
    Oper.wp Tryd.prog { dst := d, op := .store 40 x y, type := ty, pos := pos, after := af, guard := g } a w K Q = K (a.put d undef) (setV w (a.eval x) (a.eval y)) := by
  have hl : (Instr.storeAt 40 (a.eval x) (a.eval y)).run Tryd.prog w = .ok () (setV w (a.eval x) (a.eval y)) := by
    obtain ⟨cs, hl, h1, e⟩ := hu
    rw [e]
    match a.eval x, h with
    | .pointer (some ⟨b, o, none⟩), h =>
      have := run_storeAt_mid (P := Tryd.prog) w b o 40 cs.toArray (by rw [List.size_toArray, hl]; exact h) (by rw [actSize, List.size_toArray, hl]) (all_oneCell_toArray h1)
      rw [setV_ptr]
      simpa [cellsV] using this
  unfold Oper.wp execOp
  simp only [Sem.run_bind, Sem.run_pure, Result.andThen_ok, hl]
  rfl
theorem cellsV_list (cs : List Value) : cellsV (.agg cs.toArray) = cs := by simp [cellsV]
/-- New blocks by a name. -/
def zac : Array Value := (actCells ⟨0, 0, zpg, 0⟩).toArray
theorem alw_act {d : Option Tmp} {ty : TypeId} {pos : String} {af : Array Edge} {g : Option (Nat × Bool)} {a : Act} {w : World} {K : Act → World → Prop} {Q : Exit → Act → World → Prop} :
    Oper.wp Tryd.prog { dst := d, op := .alloc 40, type := ty, pos := pos, after := af, guard := g } a w K Q = K (a.put d (.pointer (some ⟨w.heap.size, 0, none⟩))) (w.alloc (.cells zac 40)) := by
  have h : (Instr.alloc 40 true (.tuple #[])).run Tryd.prog w = .ok (.pointer (some ⟨w.heap.size, 0, none⟩)) (w.alloc (.cells zac 40)) := by kernel_rfl
  unfold Oper.wp execOp
  simp only [Sem.run_bind, Sem.run_pure, Result.andThen_ok, h]
  rfl
theorem actCells_one (x : ActV) : ∀ v ∈ actCells x, v.oneCell' = true := fun v hv => by
  unfold actCells at hv
  rcases List.mem_cons.1 hv with rfl | hv
  · rfl
  · rcases List.mem_cons.1 hv with rfl | hv
    · rfl
    · rcases List.mem_append.1 hv with hv | hv
      · exact cellsB_one _ v hv
      · rw [List.mem_singleton.1 hv]; rfl
theorem zac_size : zac.size = 67 := by simp [zac, actCells, cellsB_len, zpg_len]

/-- The document's disk and the landed one hold the same. -/
def Link (D : DskV) (R : List RfL) : Prop := ∃ FW : List WrL, R = FW.map (fun z => (z.1, z.2, true)) ++ D.soft.map (fun z => (z.1, z.2, false)) ∧ ∀ i, D.firm i = lst FW i zpg
theorem link_fresh (n : Int) : Link (DskV.fresh n) [] := ⟨[], rfl, fun _ => rfl⟩
theorem Link.read {D : DskV} {R : List RfL} (h : Link D R) (i : Int) : lastP (R.map fun y => (y.1, y.2.1)) i = D.read i := by
  obtain ⟨FW, rfl, hf⟩ := h
  show lst ((FW.map (fun z => (z.1, z.2, true)) ++ D.soft.map (fun z => (z.1, z.2, false))).map fun y => (y.1, y.2.1)) i zpg = lst D.soft i (D.firm i)
  rw [hf i, ← lst_append, List.map_append, List.map_map, List.map_map]
  simp [Function.comp_def]
theorem Link.write {D : DskV} {R : List RfL} (h : Link D R) (i : Int) (p : PgL) : Link (D.write i p) (R ++ [(i, p, false)]) := by
  obtain ⟨FW, rfl, hf⟩ := h
  exact ⟨FW, by show _ = _ ++ (D.soft ++ [(i, p)]).map _; simp, hf⟩
theorem stl_split (m : Int) (FW : List WrL) (H : List WrL) : stl m (FW.map (fun z => (z.1, z.2, true)) ++ H.map (fun z => (z.1, z.2, false))) = (H.length, FW ++ kept m H) := by
  induction H using snoc_ind with
  | h0 =>
    rw [List.map_nil, List.append_nil]
    induction FW using snoc_ind with
    | h0 => rfl
    | h1 l x ih =>
      rw [List.map_append, List.map_singleton, stl_snoc, ih]
      simp [stlF, kept, keptL]
  | h1 l x ih =>
    rw [List.map_append, List.map_singleton, ← List.append_assoc, stl_snoc, ih, kept_snoc]
    unfold stlF
    simp only [Bool.false_eq_true, if_false, List.length_append, List.length_singleton]
    split
    · rw [List.append_assoc]
    · rfl
theorem Link.settle {D : DskV} {R : List RfL} (h : Link D R) (m : Int) : Link (D.crash m) ((stl m R).2.map fun z => (z.1, z.2, true)) := by
  obtain ⟨FW, rfl, hf⟩ := h
  refine ⟨FW ++ kept m D.soft, ?_, fun i => ?_⟩
  · rw [stl_split]
    show _ = _ ++ ([] : List WrL).map _
    simp
  · show lst (kept m D.soft) i (D.firm i) = _
    rw [hf i, lst_append]
theorem Link.flush {D : DskV} {R : List RfL} (h : Link D R) : Link D.flush ((stl 18446744073709551615 R).2.map fun z => (z.1, z.2, true)) := by
  have := h.settle 18446744073709551615
  obtain ⟨FW, e, hf⟩ := this
  refine ⟨FW, e, fun i => ?_⟩
  rw [← hf i]
  show lst D.soft i (D.firm i) = lst (kept 18446744073709551615 D.soft) i (D.firm i)
  rw [kept_all bitOn_all]
theorem Link.same {D D' : DskV} {R : List RfL} (h : Link D R) (e1 : D'.soft = D.soft) (e2 : D'.firm = D.firm) : Link D' R := by
  obtain ⟨FW, e, hf⟩ := h
  exact ⟨FW, by rw [e1]; exact e, by rw [e2]; exact hf⟩
end Go.Proofs.YtgjakhfmjnpkcaaDoor
