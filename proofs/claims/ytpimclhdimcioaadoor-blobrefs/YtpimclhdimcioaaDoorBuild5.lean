/-
  Literals of pages and of writes that aren't firm, and a slice of one such, for the walk: rules that build them at once. No condition.
-/
import Derived.Test.YtpimclhdimcioaaDoorWrAt
import Derived.Laws.Tables
import Derived.Great.BuildSlice
namespace Go.Proofs.YtpimclhdimcioaaDoor
open Go.RowKit

/-- The page whose first byte is 1. -/
def onePg : List UInt8 := 1 :: List.replicate 63 0
theorem onePg_len : onePg.length = 64 := rfl
theorem bdw_pg0 {d : Option Tmp} {ty : TypeId} {pos : String} {af : Array Edge} {g : Option (Nat × Bool)} {a : Act} {w : World} {K : Act → World → Prop} {Q : Exit → Act → World → Prop} :
    Oper.wp Tryd.prog { dst := d, op := .build 40 #[], type := ty, pos := pos, after := af, guard := g } a w K Q = K (a.put d (.agg (cellsB zpg).toArray)) w := by
  have h : (Instr.build 40 #[]).run Tryd.prog w = .ok (.agg (cellsB zpg).toArray) w := by kernel_rfl
  unfold Oper.wp execOp
  simp only [Sem.run_bind, Sem.run_pure, Result.andThen_ok, List.map_toArray, List.map_nil, h]
  rfl
theorem bdw_pg1 {d : Option Tmp} {ty : TypeId} {pos : String} {af : Array Edge} {g : Option (Nat × Bool)} {a : Act} {w : World} {K : Act → World → Prop} {Q : Exit → Act → World → Prop} :
    Oper.wp Tryd.prog { dst := d, op := .build 40 #[(0, .const (.int .u8 1))], type := ty, pos := pos, after := af, guard := g } a w K Q = K (a.put d (.agg (cellsB onePg).toArray)) w := by
  have h : (Instr.build 40 #[(0, .int .u8 1)]).run Tryd.prog w = .ok (.agg (cellsB onePg).toArray) w := by kernel_rfl
  unfold Oper.wp execOp
  simp only [Sem.run_bind, Sem.run_pure, Result.andThen_ok, List.map_toArray, List.map_cons, List.map_nil, Act.eval, h]
  rfl
theorem fold_fill (off : Nat) : ∀ (l pre old post : List Value) (k : Nat), old.length = l.length → pre.length = off + k → List.foldl (fun (cs : Array Value) (x : Value × Nat) => cs.setIfInBounds (off + x.2) x.1) (pre ++ old ++ post).toArray (l.zipIdx k) = (pre ++ l ++ post).toArray
  | [], pre, [], post, k, _, _ => rfl
  | v :: l, pre, u :: old, post, k, h, hk => by
    rw [List.zipIdx_cons, List.foldl_cons]
    have e : ((pre ++ u :: old ++ post).toArray.setIfInBounds (off + k) v) = ((pre ++ [v]) ++ old ++ post).toArray := by
      apply Array.ext'
      rw [← hk]
      simp
    have := fold_fill off l (pre ++ [v]) old post (k + 1) (by simpa using h) (by simp; omega)
    rw [e, this]
    simp
  | [], _, _ :: _, _, _, h, _ => by simp at h
  | _ :: _, _, [], _, _, h, _ => by simp at h
theorem fill_part (off : Nat) (l pre old post : List Value) (h : old.length = l.length) (hp : pre.length = off) : (l.toArray.zipIdx.foldl (fun (cs : Array Value) (x : Value × Nat) => cs.setIfInBounds (off + x.2) x.1) (pre ++ old ++ post).toArray) = (pre ++ l ++ post).toArray := by
  have := fold_fill off l pre old post 0 h (by omega)
  rw [← this]
  simp
def bldW (x y : Value) : Value := .agg (x :: cellsV y).toArray
theorem bldW_agg (b : Int) (l : List UInt8) : bldW (.int .i64 b) (.agg (cellsB l).toArray) = .agg (wCells (b, l)).toArray := by simp [bldW, cellsV, wCells]
def IsIv (u : Value) : Prop := ∃ n : Int, u = .int .i64 n
theorem isIv_int (n : Int) : IsIv (.int .i64 n) := ⟨n, rfl⟩
theorem fill_step {place : Nat → Option (Nat × Nat)} {i off size : Nat} {v : Value} {rest : List (Nat × Value)} (hp : place i = some (off, size)) (l pre old post : List Value) (hv : v.cells = l.toArray) (hl : l.length = size) (ho : old.length = size) (hpre : pre.length = off) :
    Instr.fill place (pre ++ old ++ post).toArray ((i, v) :: rest) = Instr.fill place (pre ++ l ++ post).toArray rest := by
  rw [Instr.fill, hp]
  have h1 := fill_part off l pre old post (by omega) hpre
  simp only [hv]
  rw [if_neg (by simp; omega)]
  rw [← h1]
theorem built_wr (n : Int) (l : List UInt8) (h : l.length = 64) : Tryd.prog.built 70 [(0, .int .i64 n), (1, .agg (cellsB l).toArray)] = some (wCells (n, l)).toArray := by
  have h0 : Tryd.prog.built 70 [(0, .int .i64 n), (1, .agg (cellsB l).toArray)] = Instr.fill (#[(0, 1), (1, 64)][·]?) zwc [(0, .int .i64 n), (1, .agg (cellsB l).toArray)] := by kernel_rfl
  have h64 : (cellsB l).length = 64 := by rw [cellsB_len, h]
  have hz : (cellsB zpg).length = 64 := by rw [cellsB_len, zpg_len]
  rw [h0]
  show Instr.fill _ ([] ++ [Value.int .i64 0] ++ cellsB zpg).toArray _ = _
  rw [fill_step (place := (#[(0, 1), (1, 64)][·]?)) (off := 0) (size := 1) rfl [.int .i64 n] [] [.int .i64 0] (cellsB zpg) rfl rfl rfl rfl]
  have e : ([] ++ [Value.int .i64 n] ++ cellsB zpg).toArray = ([Value.int .i64 n] ++ cellsB zpg ++ []).toArray := by simp
  rw [e, fill_step (place := (#[(0, 1), (1, 64)][·]?)) (off := 1) (size := 64) rfl (cellsB l) [.int .i64 n] (cellsB zpg) [] rfl h64 hz rfl]
  simp [Instr.fill, wCells]
theorem bdw_wr {d : Option Tmp} {ty : TypeId} {pos : String} {af : Array Edge} {g : Option (Nat × Bool)} {x y : Operand} {a : Act} {w : World} {K : Act → World → Prop} {Q : Exit → Act → World → Prop} (hx : IsIv (a.eval x)) (hy : IsPv (a.eval y)) :
    Oper.wp Tryd.prog { dst := d, op := .build 70 #[(0, x), (1, y)], type := ty, pos := pos, after := af, guard := g } a w K Q = K (a.put d (bldW (a.eval x) (a.eval y))) w := by
  obtain ⟨n, hn⟩ := hx
  obtain ⟨l, hl, hp⟩ := hy
  have h : (Instr.build 70 #[(0, .int .i64 n), (1, .agg (cellsB l).toArray)]).run Tryd.prog w = .ok (.agg (wCells (n, l)).toArray) w := run_build w 70 _ _ (built_wr n l hl)
  unfold Oper.wp execOp
  simp only [Sem.run_bind, Sem.run_pure, Result.andThen_ok, List.map_toArray, List.map_cons, List.map_nil, hn, hp, bldW_agg, h]
  rfl
def sl1 (v : Value) : Array Value := (cellsV v).toArray
theorem sl1_agg (x : Int × List UInt8) : sl1 (.agg (wCells x).toArray) = (wCells x).toArray := by simp [sl1, cellsV]
theorem fill_wr (x : Int × List UInt8) (h : x.2.length = 64) : Instr.fill (fun i => some (i * 65, 65)) zwc [(0, .agg (wCells x).toArray)] = some (wCells x).toArray := by
  have h65 := wCells_len h
  have hz : (wCells (0, zpg)).length = 65 := wCells_len (x := (0, zpg)) zpg_len
  have e : zwc = ([] ++ wCells (0, zpg) ++ []).toArray := by simp [zwc]
  rw [e, fill_step (place := fun i => some (i * 65, 65)) (off := 0) (size := 65) rfl (wCells x) [] (wCells (0, zpg)) [] rfl h65 hz rfl]
  simp [Instr.fill]
theorem slice_wr (w : World) (x : Int × List UInt8) (h : x.2.length = 64) : (Instr.buildSlice 67 1 #[(0, .agg (wCells x).toArray)]).run Tryd.prog w = .ok (.slice (some ⟨w.heap.size, 0, none⟩) 1 1) (w.alloc (.cells (wCells x).toArray 70)) := by
  have hi : (Tryd.prog.info? 70).map (fun i => (i.zero, i.size)) = some (some (.agg zwc), 65) := by kernel_rfl
  obtain ⟨ie, hie, hq⟩ := Option.map_eq_some_iff.1 hi
  simp only [Prod.mk.injEq] at hq
  have hr : (Array.range (1 * 65)).map ((Value.agg zwc).cells[· % (Value.agg zwc).cells.size]!) = zwc := by kernel_rfl
  refine run_buildSlice w 67 70 1 _ _ ie (.agg zwc) Tryd.underlying67 hie hq.1 (by rw [hq.2]; decide) (by rw [hq.2]; decide) ?_
  rw [hq.2, hr]
  exact fill_wr x h
theorem bsw_wr {d : Option Tmp} {ty : TypeId} {pos : String} {af : Array Edge} {g : Option (Nat × Bool)} {x : Operand} {a : Act} {w : World} {K : Act → World → Prop} {Q : Exit → Act → World → Prop} (hx : IsWv (a.eval x)) :
    Oper.wp Tryd.prog { dst := d, op := .buildSlice 67 1 #[(0, x)], type := ty, pos := pos, after := af, guard := g } a w K Q = K (a.put d (.slice (some ⟨w.heap.size, 0, none⟩) 1 1)) (w.alloc (.cells (sl1 (a.eval x)) 70)) := by
  obtain ⟨y, hl, hp⟩ := hx
  unfold Oper.wp execOp
  simp only [Sem.run_bind, Sem.run_pure, Result.andThen_ok, List.map_toArray, List.map_cons, List.map_nil, hp, sl1_agg, slice_wr w y hl]
  rfl
end Go.Proofs.YtpimclhdimcioaaDoor
