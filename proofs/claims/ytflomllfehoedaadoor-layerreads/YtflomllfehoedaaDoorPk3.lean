/-
  Two entries compared: rules for the walk (plain, in a region that reads, in one that leaves what was there as it was). No condition.
  Contracts of the helpers of layer 9's statements: Size and Same of lists of entries. Condition: the lists lie in memory.
  Lists of entries of a size that the contracts take. No condition.
  Loads of an entry (three cells, a variable's or a slice's element) in a region that leaves what was there as it was (OldQ): a rule for the walk. No condition.
  The contract of layer.Right. Conditions: the list lies in memory, has at most 1000 entries, its texts at most 100000 bytes.
  A layer's text: how many entries, the entries, the sum of all that. It is no other layer's; with one byte changed it is none's. No condition.
  What package layer's functions answer, as one statement about all of them (Layer9): the laws of layer 9 are walked over it. Conditions: lists in memory, of at most 1000 entries, texts of at most 100000 bytes; errorType holds error's type.
  Reads that are refused: code.number panics at bytes that begin with no number, or with one above the bound. Condition: the bytes fit in memory.
  A reader's Num at bytes that begin with no number up to the bound: ErrForm, and nothing is read. Condition: the bytes fit in memory.
-/
import Derived.Test.YtflomllfehoedaaDoorPk2
import Derived.Test.YtflomllfehoedaaDoorOldQ
import Derived.Laws.StructEq
import Derived.BigQuiet
import Derived.Deep.LoopGhost
import Derived.Lib.Hide
import Derived.IntWalk
import Derived.Test.YtflomllfehoedaaDoorS2Four
import Derived.Test.YtflomllfehoedaaDoorBs
import Derived.Test.YtflomllfehoedaaDoorIsErr
import Derived.Test.YtflomllfehoedaaDoorErrV
import Derived.WalkLawsBesides
namespace Go.Proofs.YtflomllfehoedaaDoor
open Go.RowKit

theorem toList_inj {a b : ByteArray} : a.toList = b.toList ↔ a = b := by
  rw [Lib.toList_data, Lib.toList_data]
  exact ⟨ba_ext, fun h => by rw [h]⟩
theorem ent_eql (w : World) (e f : Ent) : (binOp .eql 38 (enV e) (enV f)).run Tryd.prog w = .ok (.bool (decide (e = f))) w := by
  have hd : decide (e = f) = (decide (e.1 = f.1) && decide (e.2.1 = f.2.1) && decide (e.2.2 = f.2.2)) := by
    rw [Bool.eq_iff_iff, Bool.and_eq_true, Bool.and_eq_true, decide_eq_true_iff, decide_eq_true_iff, decide_eq_true_iff, decide_eq_true_iff]
    constructor
    · rintro rfl
      exact ⟨⟨rfl, rfl⟩, rfl⟩
    · rintro ⟨⟨h1, h2⟩, h3⟩
      exact Prod.ext h1 (Prod.ext h2 h3)
  rw [hd]
  simp [go_sem]
  simp only [toList_inj]
  by_cases h1 : e.1 = f.1
  · by_cases h2 : e.2.1 = f.2.1
    · by_cases h3 : e.2.2 = f.2.2
      · simp [h1, h2, h3]
      · simp [h1, h2, h3]
    · simp [h1, h2]
  · simp [h1]
theorem ent_neq (w : World) (e f : Ent) : (binOp .neq 38 (enV e) (enV f)).run Tryd.prog w = .ok (.bool (!decide (e = f))) w := by
  have h := ent_eql w e f
  rw [run_eql_struct] at h
  rw [run_neq_struct]
  generalize (Op.equalIn 10000 38 (.agg #[.string e.1, .int .i64 e.2.1, .string e.2.2]) (.agg #[.string f.1, .int .i64 f.2.1, .string f.2.2])).run Tryd.prog w = r at h
  cases r with
  | ok b w' =>
    simp only [Result.andThen_ok] at h ⊢
    injection h with h1 h2
    injection h1 with h1
    rw [h1, h2]
  | halt x w' => cases h
/-- An entry's value. -/
def IsEv (v : Value) : Prop := ∃ e : Ent, v = enV e
def entOf (v : Value) : Ent := match v with
  | .agg ⟨[.string p, .int _ k, .string d]⟩ => (p, k, d)
  | _ => (⟨#[]⟩, 0, ⟨#[]⟩)
/-- Two entries' values alike? -/
def evEq (v u : Value) : Bool := decide (entOf v = entOf u)
theorem isEv_agg (p : ByteArray) (k : Int) (d : ByteArray) : IsEv (.agg #[.string p, .int .i64 k, .string d]) = True := eq_true ⟨(p, k, d), rfl⟩
theorem evEq_agg (p q : ByteArray) (k m : Int) (d f : ByteArray) : evEq (.agg #[.string p, .int .i64 k, .string d]) (.agg #[.string q, .int .i64 m, .string f]) = decide (((p, k, d) : Ent) = (q, m, f)) := rfl
theorem eta_ent (e : Ent) : ((e.1, e.2.1, e.2.2) : Ent) = e := rfl
theorem guardE_en (op : BinOp) (w : World) (x y : Operand) (c c' : Array Value) : (eqGuard op 38 x y (.agg c) (.agg c')).run Tryd.prog w = .ok () w := run_eqGuard_agg _ op 38 x y c c' (by kernel_rfl)
theorem xeq_en {d : Option Tmp} {ty t2 : TypeId} {pos : String} {af : Array Edge} {g : Option (Nat × Bool)} {x y : Operand} {a : Act} {w : World} (hx : IsEv (a.eval x)) (hy : IsEv (a.eval y)) :
    (execOp a.eval { dst := d, op := .binOp .eql 38 x y t2, type := ty, pos := pos, after := af, guard := g }).run Tryd.prog w = .ok (.value (.bool (evEq (a.eval x) (a.eval y)))) w := by
  obtain ⟨e, h1⟩ := hx
  obtain ⟨f, h2⟩ := hy
  have h := ent_eql w e f
  unfold execOp
  rw [h1, h2, evEq_agg, eta_ent, eta_ent]
  simp only [Sem.run_bind, Sem.run_pure, Result.andThen_ok, h1, h2, guardE_en, h]
theorem xne_en {d : Option Tmp} {ty t2 : TypeId} {pos : String} {af : Array Edge} {g : Option (Nat × Bool)} {x y : Operand} {a : Act} {w : World} (hx : IsEv (a.eval x)) (hy : IsEv (a.eval y)) :
    (execOp a.eval { dst := d, op := .binOp .neq 38 x y t2, type := ty, pos := pos, after := af, guard := g }).run Tryd.prog w = .ok (.value (.bool (!evEq (a.eval x) (a.eval y)))) w := by
  obtain ⟨e, h1⟩ := hx
  obtain ⟨f, h2⟩ := hy
  have h := ent_neq w e f
  unfold execOp
  rw [h1, h2, evEq_agg, eta_ent, eta_ent]
  simp only [Sem.run_bind, Sem.run_pure, Result.andThen_ok, h1, h2, guardE_en, h]
section
variable {d : Option Tmp} {ty t2 : TypeId} {pos : String} {af : Array Edge} {g : Option (Nat × Bool)} {x y : Operand} {a : Act} {w0 : World} {K : Act → Prop} {KW : Act → World → Prop} {Q : Exit → Act → World → Prop}
theorem quiet_eq9 {o : Oper} {C : World → Prop} {v : Value} (h0 : C w0) (h : ∀ w, C w → (execOp a.eval o).run Tryd.prog w = .ok (.value v) w) : Oper.quiet Tryd.prog o a C K = K (a.put o.dst v) := by
  apply propext
  constructor
  · rintro ⟨u, h1, h2⟩
    have := h1 w0 h0
    unfold Oper.quietAt at this
    rw [h w0 h0] at this
    obtain ⟨_, rfl⟩ := this
    exact h2
  · intro hk
    exact ⟨v, fun w hw => by unfold Oper.quietAt; rw [h w hw]; exact ⟨rfl, rfl⟩, hk⟩
theorem qeq_en (hx : IsEv (a.eval x)) (hy : IsEv (a.eval y)) : Oper.quiet Tryd.prog { dst := d, op := .binOp .eql 38 x y t2, type := ty, pos := pos, after := af, guard := g } a (fun w' => ∃ n, w' = w0.drewN n) K = K (a.put d (.bool (evEq (a.eval x) (a.eval y)))) :=
  quiet_eq9 (w0 := w0) ⟨0, rfl⟩ fun _ _ => xeq_en hx hy
theorem qne_en (hx : IsEv (a.eval x)) (hy : IsEv (a.eval y)) : Oper.quiet Tryd.prog { dst := d, op := .binOp .neq 38 x y t2, type := ty, pos := pos, after := af, guard := g } a (fun w' => ∃ n, w' = w0.drewN n) K = K (a.put d (.bool (!evEq (a.eval x) (a.eval y)))) :=
  quiet_eq9 (w0 := w0) ⟨0, rfl⟩ fun _ _ => xne_en hx hy
theorem old_eqen (hx : IsEv (a.eval x)) (hy : IsEv (a.eval y)) : Oper.quiet Tryd.prog { dst := d, op := .binOp .eql 38 x y t2, type := ty, pos := pos, after := af, guard := g } a (OldC w0) K = K (a.put d (.bool (evEq (a.eval x) (a.eval y)))) :=
  quiet_eq9 (OldC.self w0) fun _ _ => xeq_en hx hy
theorem old_neen (hx : IsEv (a.eval x)) (hy : IsEv (a.eval y)) : Oper.quiet Tryd.prog { dst := d, op := .binOp .neq 38 x y t2, type := ty, pos := pos, after := af, guard := g } a (OldC w0) K = K (a.put d (.bool (!evEq (a.eval x) (a.eval y)))) :=
  quiet_eq9 (OldC.self w0) fun _ _ => xne_en hx hy
theorem eqw_en (hx : IsEv (a.eval x)) (hy : IsEv (a.eval y)) : Oper.wp Tryd.prog { dst := d, op := .binOp .eql 38 x y t2, type := ty, pos := pos, after := af, guard := g } a w0 KW Q = KW (a.put d (.bool (evEq (a.eval x) (a.eval y)))) w0 := by
  unfold Oper.wp
  rw [xeq_en hx hy]
  rfl
theorem new_en (hx : IsEv (a.eval x)) (hy : IsEv (a.eval y)) : Oper.wp Tryd.prog { dst := d, op := .binOp .neq 38 x y t2, type := ty, pos := pos, after := af, guard := g } a w0 KW Q = KW (a.put d (.bool (!evEq (a.eval x) (a.eval y)))) w0 := by
  unfold Oper.wp
  rw [xne_en hx hy]
  rfl
end
end Go.Proofs.YtflomllfehoedaaDoor

namespace Go.Proofs.YtflomllfehoedaaDoor
open Go.RowKit

/-- A list of entries of a size that is looked at. -/
def SizeOK (l : List Ent) : Prop := l.length ≤ 70 ∧ ∀ e ∈ l, e.1.size ≤ 100 ∧ e.2.2.size ≤ 600
instance (l : List Ent) : Decidable (SizeOK l) := inferInstanceAs (Decidable (_ ∧ _))
def okE (e : Ent) : Prop := e.1.size ≤ 100 ∧ e.2.2.size ≤ 600
theorem take_get {α : Type} (l : List α) (k : Nat) (h : k < l.length) : l.take (k + 1) = l.take k ++ [l[k]] := by
  rw [List.take_add_one, List.getElem?_eq_getElem h]
  rfl
set_option maxRecDepth 10000 in
set_option maxHeartbeats 1000000 in
theorem size9 (l : List Ent) (a : Option Addr) (cap : Nat) (w : World) (h : Ents w a cap l) : Calls Tryd.prog 10 #[.slice a l.length cap] w fun e w' => e = .returned (.int .i64 (if SizeOK l then 1 else 0)) ∧ w = w' := by
  obtain ⟨R, hR⟩ : ∃ R : Int, (if SizeOK l then 1 else 0) = R := ⟨_, rfl⟩
  rw [hR]
  have HR := Lib.hid hR
  clear hR
  by_cases h70 : l.length ≤ 70
  · have HE := Lib.hid h
    have HL := Lib.hid h70
    have g70 : ¬ (70 : Int) < (l.length : Int) := by omega
    clear h
    go_enter Tryd.func10, Tryd.ntmps10
    go_wp2
    go_loopg [3] l.length (fun g i wx => ∃ k : Nat, i = .int .i64 (k : Int) ∧ k + g = l.length ∧ Hid (∀ e ∈ l.take k, okE e) ∧ w = wx)
    case atStart => exact ⟨0, rfl, by omega, by intro e he; simp at he, rfl⟩
    case round =>
      obtain ⟨k, rfl, hk, HI, rfl⟩ := hrel
      by_cases hlt : k < l.length
      · have hlt' : (k : Int) < (l.length : Int) := by omega
        obtain ⟨b, off, rfl, hb, hc⟩ := HE.out.at (Below.refl _ _) hlt
        have HT := Lib.hid (take_get l k hlt)
        have HM := Lib.hid (List.getElem_mem hlt)
        obtain ⟨x, hx⟩ : ∃ x, l[k] = x := ⟨_, rfl⟩
        rw [hx] at hc HT HM
        have c0 := hc.c0
        have c2 := hc.c2
        clear hc hx hb
        by_cases g1 : x.1.size ≤ 100
        · have g1' : ¬ (100 : Int) < (x.1.size : Int) := by omega
          by_cases g2 : x.2.2.size ≤ 600
          · have g2' : ¬ (600 : Int) < (x.2.2.size : Int) := by omega
            have HX := Lib.hid (show okE x from ⟨g1, g2⟩)
            clear g1 g2
            go_wp2
            go_roundg (gk - 1)
            case measure => omega
            case rel =>
              refine ⟨k + 1, by simp, by omega, ?_, rfl⟩
              intro e he
              rw [HT.out] at he
              rcases List.mem_append.1 he with he | he
              · exact HI.out e he
              · obtain rfl : e = x := by simpa using he
                exact HX.out
          · have g2' : (600 : Int) < (x.2.2.size : Int) := by omega
            have HX := Lib.hid (show R = 0 by rw [← HR.out, if_neg fun h => g2 (h.2 x HM.out).2])
            clear g1 g2
            go_wp2
            go_ret
            exact ⟨by rw [HX.out]; rfl, rfl⟩
        · have g1' : (100 : Int) < (x.1.size : Int) := by omega
          have HX := Lib.hid (show R = 0 by rw [← HR.out, if_neg fun h => g1 (h.2 x HM.out).1])
          clear g1
          go_wp2
          go_ret
          exact ⟨by rw [HX.out]; rfl, rfl⟩
      · have hlt' : ¬ (k : Int) < (l.length : Int) := by omega
        have HX := Lib.hid (show R = 1 by rw [← HR.out, if_pos ⟨HL.out, fun e he => HI.out e (by rw [List.take_of_length_le (by omega)]; exact he)⟩])
        go_wp2
        go_ret
        exact ⟨by rw [HX.out]; rfl, rfl⟩
  · have g70 : (70 : Int) < (l.length : Int) := by omega
    have HX := Lib.hid (show R = 0 by rw [← HR.out, if_neg fun h => h70 h.1])
    clear h h70
    go_enter Tryd.func10, Tryd.ntmps10
    go_wp2
    go_ret
    exact ⟨by rw [HX.out]; rfl, rfl⟩
attribute [local go_sem ↓] qne_en qeq_en
attribute [local go_sem] isEv_agg evEq_agg eta_ent
theorem take_eq {α : Type} (l m : List α) (k : Nat) (h : k < l.length) (h2 : k < m.length) : l.take (k + 1) = m.take (k + 1) ↔ l.take k = m.take k ∧ l[k] = m[k] := by
  rw [take_get l k h, take_get m k h2]
  constructor
  · intro e
    obtain ⟨e1, e2⟩ := List.append_inj' e rfl
    exact ⟨e1, by simpa using e2⟩
  · rintro ⟨e1, e2⟩
    rw [e1, e2]
set_option maxRecDepth 10000 in
set_option maxHeartbeats 1000000 in
theorem same9 (l m : List Ent) (a a2 : Option Addr) (cap cap2 : Nat) (w : World) (h : Ents w a cap l) (h2 : Ents w a2 cap2 m) (hz : l.length ≤ maxLen) : Calls Tryd.prog 15 #[.slice a l.length cap, .slice a2 m.length cap2] w fun e w' => e = .returned (.int .i64 (if l = m then 1 else 0)) ∧ Below w.heap.size w w' := by
  obtain ⟨R, hR⟩ : ∃ R : Int, (if l = m then 1 else 0) = R := ⟨_, rfl⟩
  rw [hR]
  have HR := Lib.hid hR
  clear hR
  by_cases hl : l.length = m.length
  · have HE := Lib.hid h
    have HE2 := Lib.hid h2
    have HL := Lib.hid hl
    have HZ := Lib.hid hz
    have gl : ((l.length : Int) != (m.length : Int)) = false := by rw [hl]; simp
    clear h h2 hl hz
    go_enter Tryd.func15, Tryd.ntmps15
    go_wp2
    go_loopg [5] l.length (fun g i wx => ∃ k : Nat, i = .int .i64 (k : Int) ∧ k + g = l.length ∧ Hid (l.take k = m.take k) ∧ Hid (Below w.heap.size w wx))
    case atStart => exact ⟨0, rfl, by omega, by simp [Hid], Below.refl _ _⟩
    case round =>
      obtain ⟨k, rfl, hk, HI, HB⟩ := hrel
      by_cases hlt : k < l.length
      · have hlt' : (k : Int) < (l.length : Int) := by omega
        have hlt2 : (k : Int) < (m.length : Int) := by have := HL.out; omega
        obtain ⟨b, off, rfl, hb, hc⟩ := HE.out.at HB.out hlt
        obtain ⟨b2, off2, rfl, hb2, hc2⟩ := HE2.out.at HB.out (show k < m.length by omega)
        have HT := Lib.hid (take_eq l m k hlt (by omega))
        have hw : IntKind.i64.wrap ((k : Int) + 1) = (k : Int) + 1 := IntWalk.i64_in _ (by have := HZ.out; unfold maxLen at this; omega)
        obtain ⟨x, hx⟩ : ∃ x, l[k] = x := ⟨_, rfl⟩
        obtain ⟨y, hy⟩ : ∃ y, m[k]'(by omega) = y := ⟨_, rfl⟩
        rw [hx] at hc
        rw [hy] at hc2
        have HXY := Lib.hid (And.intro hx hy)
        have c0 := hc.c0
        have c1 := hc.c1
        have c2 := hc.c2
        have d0 := hc2.c0
        have d1 := hc2.c1
        have d2 := hc2.c2
        clear hc hc2 hx hy hb hb2
        by_cases hxy : x = y
        · have gxy : decide (x = y) = true := decide_eq_true hxy
          have HN := Lib.hid (show l.take (k + 1) = m.take (k + 1) from HT.out.2 ⟨HI.out, by rw [HXY.out.1, HXY.out.2]; exact hxy⟩)
          clear hxy
          go_wp2
          go_quiet (fail)
          go_wp2
          go_roundg (gk - 1)
          case measure => omega
          case rel => exact ⟨k + 1, by simp, by omega, HN.out, below_drewX HB.out _⟩
        · have gxy : decide (x = y) = false := decide_eq_false hxy
          have HX := Lib.hid (show R = 0 by
            rw [← HR.out, if_neg fun e => hxy ?_]
            subst e
            exact HXY.out.1.symm.trans HXY.out.2)
          clear hxy
          go_wp2
          go_quiet (fail)
          go_wp2
          go_ret
          exact ⟨by rw [HX.out]; rfl, below_drewX HB.out _⟩
      · have hlt' : ¬ (k : Int) < (l.length : Int) := by omega
        have HX := Lib.hid (show R = 1 by
          have := HI.out
          rw [List.take_of_length_le (by omega), List.take_of_length_le (by have := HL.out; omega)] at this
          rw [← HR.out, if_pos this])
        go_wp2
        go_ret
        exact ⟨by rw [HX.out]; rfl, HB.out⟩
  · have gl : ((l.length : Int) != (m.length : Int)) = true := by rw [bne_iff_ne]; omega
    have HX := Lib.hid (show R = 0 by rw [← HR.out, if_neg fun h => hl (by rw [h])])
    clear h h2 hl hz
    go_enter Tryd.func15, Tryd.ntmps15
    go_wp2
    go_ret
    exact ⟨by rw [HX.out]; rfl, Below.refl _ _⟩
end Go.Proofs.YtflomllfehoedaaDoor

namespace Go.Proofs.YtflomllfehoedaaDoor
open Go.RowKit

/-- Of a size that the contracts take. -/
def Sm (l : List Ent) : Prop := l.length ≤ 1000 ∧ ∀ e ∈ l, e.1.size ≤ 100000 ∧ e.2.2.size ≤ 100000
theorem right_nil : RightL [] := ⟨by simp, rl_nil⟩
theorem sm_nil : Sm [] := ⟨by simp, by simp⟩
theorem sm_right {l : List Ent} (h : RightL l) : Sm l := ⟨by have := h.1; omega, fun e he => by
  obtain ⟨h1, _, _, h4, _⟩ := rightE_parts (h.2.1 e he)
  have h54 := isP_len (isP_of_dp h1)
  rw [← Lib.size_eq] at h54
  omega⟩
theorem sm_size {l : List Ent} (h : SizeOK l) : Sm l := ⟨by have := h.1; omega, fun e he => by have := h.2 e he; omega⟩
theorem sm_one {x : Ent} (h : rE x = true) : Sm [x] := ⟨by simp, fun e he => by
  obtain rfl : e = x := by simpa using he
  obtain ⟨h1, _, _, h4, _⟩ := rightE_parts h
  have h54 := isP_len (isP_of_dp h1)
  rw [← Lib.size_eq] at h54
  omega⟩
end Go.Proofs.YtflomllfehoedaaDoor

namespace Go.Proofs.YtflomllfehoedaaDoor
open Go.RowKit

/-- An entry lies there; it. -/
def IsE3 (w : World) : Value → Prop
  | .pointer (some ⟨b, o, none⟩) => (∃ p, w.cell? ⟨b, o, none⟩ = some (.string p)) ∧ (∃ k, w.cell? ⟨b, o + 1, none⟩ = some (.int .i64 k)) ∧ ∃ d, w.cell? ⟨b, o + 2, none⟩ = some (.string d)
  | _ => False
def e3V (w : World) : Value → Value
  | .pointer (some ⟨b, o, none⟩) => .agg #[(w.cell? ⟨b, o, none⟩).getD undef, (w.cell? ⟨b, o + 1, none⟩).getD undef, (w.cell? ⟨b, o + 2, none⟩).getD undef]
  | _ => undef
theorem isE3_ptr (w : World) (b o : Nat) : IsE3 w (.pointer (some ⟨b, o, none⟩)) = ((∃ p, w.cell? ⟨b, o, none⟩ = some (.string p)) ∧ (∃ k, w.cell? ⟨b, o + 1, none⟩ = some (.int .i64 k)) ∧ ∃ d, w.cell? ⟨b, o + 2, none⟩ = some (.string d)) := rfl
theorem e3V_ptr (w : World) (b o : Nat) : e3V w (.pointer (some ⟨b, o, none⟩)) = .agg #[(w.cell? ⟨b, o, none⟩).getD undef, (w.cell? ⟨b, o + 1, none⟩).getD undef, (w.cell? ⟨b, o + 2, none⟩).getD undef] := rfl
theorem ld_e3 {w : World} {b o : Nat} {e : Ent} (h : EnCells w b o e) : (Instr.loadAt 38 (.pointer (some ⟨b, o, none⟩))).run Tryd.prog w = .ok (enV e) w := by
  refine (fun hr : w.rangeAt b o (enc e) => run_loadAt_mid w b o 38 _ _ hr Tryd.underlying38 rfl (by rw [enSize]; rfl)) ?_
  intro j v hv
  match j, hv with
  | 0, hv => obtain rfl : .string e.1 = v := by simpa using hv
             exact h.c0
  | 1, hv => obtain rfl : .int .i64 e.2.1 = v := by simpa using hv
             exact h.c1
  | 2, hv => obtain rfl : .string e.2.2 = v := by simpa using hv
             exact h.c2
theorem old_lde3 {d : Option Tmp} {ty : TypeId} {pos : String} {af : Array Edge} {g : Option (Nat × Bool)} {x : Operand} {a : Act} {w0 : World} {K : Act → Prop} (h : IsE3 w0 (a.eval x)) :
    Oper.quiet Tryd.prog { dst := d, op := .load 38 x, type := ty, pos := pos, after := af, guard := g } a (OldC w0) K = K (a.put d (e3V w0 (a.eval x))) := by
  refine old_eq fun w hw => ?_
  have hl : (Instr.loadAt 38 (a.eval x)).run Tryd.prog w = .ok (e3V w0 (a.eval x)) w := by
    match a.eval x, h with
    | .pointer (some ⟨b, o, none⟩), ⟨⟨p, hp⟩, ⟨k, hk⟩, ⟨d, hd⟩⟩ =>
      rw [e3V_ptr, hp, hk, hd]
      have hlt := World.block_lt_of_cell? w0 _ hp
      exact ld_e3 (e := (p, k, d)) ⟨(Below.cell hw (p := ⟨b, o, none⟩) hlt).trans hp, (Below.cell hw (p := ⟨b, o + 1, none⟩) hlt).trans hk, (Below.cell hw (p := ⟨b, o + 2, none⟩) hlt).trans hd⟩
  unfold execOp
  simp only [Sem.run_bind, Sem.run_pure, Result.andThen_ok, hl]
end Go.Proofs.YtflomllfehoedaaDoor

namespace Go.Proofs.YtflomllfehoedaaDoor
open Go.RowKit

theorem rl_no {l : List Ent} {k : Nat} (h : ¬ RL (l.take (k + 1))) : decide (RightL l) = false := decide_eq_false fun hr => h (rl_take hr.2 _)
theorem last_take9 {l : List Ent} {k j : Nat} (hk : k < l.length) (hj : k = j + 1) : (l.take k).getLast? = some (l[j]'(by omega)) := by
  subst hj
  rw [take_get l j (by omega), List.getLast?_concat]
attribute [local go_sem ↓] old_ldi old_lds old_lde3
attribute [local go_sem] oldC_forall isC1_ptr isS1_ptr c1V_ptr isE3_ptr e3V_ptr
set_option maxRecDepth 10000 in
set_option maxHeartbeats 4000000 in
theorem right9 (l : List Ent) (a : Option Addr) (cap : Nat) (w : World) (h : Ents w a cap l) (hs : Sm l) : Calls Tryd.prog 13 #[.slice a l.length cap] w fun e w' => e = .returned (.bool (decide (RightL l))) ∧ Below w.heap.size w w' := by
  obtain ⟨R, hR⟩ : ∃ R, decide (RightL l) = R := ⟨_, rfl⟩
  rw [hR]
  have HR := Lib.hid hR
  clear hR
  by_cases h64 : l.length ≤ 64
  · have g64 : ¬ (64 : Int) < (l.length : Int) := by omega
    have HE := Lib.hid h
    have HS := Lib.hid hs
    have HL := Lib.hid h64
    have HCAP := Lib.hid h.1
    clear h hs
    go_enter Tryd.func13, Tryd.ntmps13
    go_wp2
    go_loopg [10] l.length (fun g i wx => ∃ k : Nat, i = .int .i64 (k : Int) ∧ k + g = l.length ∧ Hid (RL (l.take k)) ∧ Hid (Below w.heap.size w wx))
    case atStart => exact ⟨0, rfl, by omega, by simpa [Hid] using rl_nil, Below.refl _ _⟩
    case round =>
      obtain ⟨k, rfl, hk, HI, HB⟩ := hrel
      have hw : IntKind.i64.wrap ((k : Int) + 1) = (k : Int) + 1 := IntWalk.i64_in _ (by omega)
      by_cases hlt : k < l.length
      · have hlt' : (k : Int) < (l.length : Int) := by omega
        have hkc : (k : Int) ≤ (cap : Int) := by have := HCAP.out; omega
        obtain ⟨b, off, rfl, hb, hc⟩ := HE.out.at HB.out hlt
        have HEr := Lib.hid (RowN.below HE.out HB.out)
        have HT := Lib.hid (take_get l k hlt)
        have HZ := Lib.hid (HS.out.2 _ (List.getElem_mem hlt))
        have HLT := Lib.hid (fun j (hj : k = j + 1) => last_take9 hlt hj)
        have HNO := Lib.hid (fun h => rl_no (l := l) (k := k) h)
        obtain ⟨x, hx⟩ : ∃ x, l[k] = x := ⟨_, rfl⟩
        rw [hx] at hc HT HZ
        have HXK := Lib.hid hx
        have c0 := hc.c0
        have c1 := hc.c1
        have c2 := hc.c2
        obtain ⟨W, hW⟩ : ∃ W, wr.alloc (.cells #[.string x.1, .int .i64 x.2.1, .string x.2.2] 38) = W := ⟨_, rfl⟩
        obtain ⟨M, hM⟩ : ∃ M, wr.heap.size = M := ⟨_, rfl⟩
        have hbW : Below wr.heap.size wr W := by rw [← hW]; exact (Below.refl _ _).alloc (Nat.le_refl _) _
        have HBW := Lib.hid (HB.out.trans (hbW.mono HB.out.size))
        have HQ := Lib.hid (show EnAt W M x.1 x.2.1 x.2.2 by rw [← hW, ← hM]; exact enAt_new _ _ _ _)
        have HEW := Lib.hid (RowN.below HEr.out hbW)
        have q0 := HQ.out.c0
        have q1 := HQ.out.c1
        have q2 := HQ.out.c2
        have H1 : Hid (∀ w0 w', OldC w0 w' → Calls Tryd.prog 32 #[entV x.1 x.2.1 x.2.2] w' fun r w'' => r = .returned (.bool (rE x)) ∧ OldC w0 w'') := fun w0 w' hw' => by
          refine (right8 x.1 x.2.1 x.2.2 (by have := HZ.out; unfold maxLen; omega) w').mono ?_
          rintro r w'' ⟨rfl, hb⟩
          exact ⟨rfl, hw'.then hb⟩
        have H2 : Hid (∀ y : Ent, ∀ w0 w', OldC w0 w' → Calls Tryd.prog 33 #[entV y.1 y.2.1 y.2.2, entV x.1 x.2.1 x.2.2] w' fun r w'' => r = .returned (.bool (lt8 (pl y) (pl x))) ∧ OldC w0 w'') := fun y w0 w' hw' => by
          refine (less8 y.1 x.1 y.2.2 x.2.2 y.2.1 x.2.1 w').mono ?_
          rintro r w'' ⟨rfl, hb⟩
          exact ⟨rfl, hw'.then hb⟩
        clear hc hx hb hbW
        cases hv : rE x with
        | false =>
          rw [hv] at H1
          have HX := Lib.hid (show R = false by
            rw [← HR.out]
            refine HNO.out fun h => ?_
            rw [HT.out, rl_snoc, hv] at h
            cases h.2.1)
          clear hv
          go_wp2_with fail
          refine wp_region_old (by kernel_rfl) (by kernel_rfl) ?_
          repeat (go_big_quiet_step ((first | (intro hw; with_reducible exact H1.out _ _ hw))))
          refine wpQuiet_nil ?_
          intro w3 hw3
          have HB3 := Lib.hid (show Below w.heap.size w w3 from HBW.out.trans (Below.mono hw3 HBW.out.size))
          clear hw3
          go_wp2
          go_ret
          exact ⟨by rw [HX.out]; rfl, HB3.out⟩
        | true =>
          rw [hv] at H1
          have HVX := Lib.hid hv
          clear hv
          have called : (decide (0 < k) = false ∧ ∀ y, (l.take k).getLast? = some y → lt8 (pl y) (pl x) = true) ∨ (decide (0 < k) = true ∧ ∃ (j : Nat) (y : Ent), (k : Int) - 1 = (j : Int) ∧ (l.take k).getLast? = some y ∧ EnCells W b (off + j * 3) y ∧ (j : Int) < (l.length : Int)) := by
            by_cases h0 : 0 < k
            · refine .inr ⟨decide_eq_true h0, k - 1, l[k - 1]'(by omega), by omega, HLT.out (k - 1) (by omega), ?_, by omega⟩
              obtain ⟨b', off', e9, _, h9⟩ := Ents.at HEW.out (Below.refl _ _) (show k - 1 < l.length by omega)
              cases e9
              exact h9
            · refine .inl ⟨decide_eq_false h0, fun y hy => ?_⟩
              obtain rfl : k = 0 := by omega
              simp at hy
          rcases called with ⟨g0, hlast⟩ | ⟨g0, j, y, hj, hy, hcy, hjl⟩
          · have HLA := Lib.hid hlast
            clear hlast
            go_wp2_with fail
            refine wp_region_old (by kernel_rfl) (by kernel_rfl) ?_
            repeat (go_big_quiet_step ((first | (intro hw; with_reducible exact H1.out _ _ hw))))
            refine wpQuiet_nil ?_
            intro w3 hw3
            have HB3 := Lib.hid (show Below w.heap.size w w3 from HBW.out.trans (Below.mono hw3 HBW.out.size))
            have HQ3 := Lib.hid (HQ.out.below hw3)
            have HE3 := Lib.hid (RowN.below HEW.out hw3)
            clear hw3 q0 q1 q2 c0 c1 c2
            have q0 := HQ3.out.c0
            have q1 := HQ3.out.c1
            have q2 := HQ3.out.c2
            have H3 : Hid (∀ w', OldC w3 w' → Calls Tryd.prog 34 #[.slice (some ⟨b, off, none⟩) k cap, entV x.1 x.2.1 x.2.2] w' fun r w'' => r = .returned (.bool (decide (inD (l.take k) x))) ∧ OldC w3 w'') := fun w' hw' => by
              have hc := housed9 (l.take k) (some ⟨b, off, none⟩) cap x w' (Ents.take (RowN.below HE3.out hw') k) HI.out.2.1 (by rw [List.length_take]; omega) HVX.out
              rw [List.length_take, Nat.min_eq_left (by omega)] at hc
              refine hc.mono ?_
              rintro r w'' ⟨rfl, hb⟩
              exact ⟨rfl, hw'.then hb⟩
            by_cases hin : inD (l.take k) x
            · rw [decide_eq_true hin] at H3
              have HN := Lib.hid (show RL (l.take (k + 1)) by rw [HT.out, rl_snoc]; exact ⟨HI.out, HVX.out, HLA.out, hin⟩)
              clear hin
              go_wp2_with fail
              refine wp_region_old (by kernel_rfl) (by kernel_rfl) ?_
              repeat (go_big_quiet_step ((first | (intro hw; with_reducible exact H3.out _ hw))))
              refine wpQuiet_nil ?_
              intro w4 hw4
              have HB4 := Lib.hid (show Below w.heap.size w w4 from HB3.out.trans (Below.mono hw4 HB3.out.size))
              clear hw4
              go_wp2
              go_roundg (gk - 1)
              case measure => omega
              case rel => exact ⟨k + 1, by simp, by omega, HN.out, HB4.out⟩
            · rw [decide_eq_false hin] at H3
              have HX := Lib.hid (show R = false by
                rw [← HR.out]
                refine HNO.out fun h => ?_
                rw [HT.out, rl_snoc] at h
                exact hin h.2.2.2)
              clear hin
              go_wp2_with fail
              refine wp_region_old (by kernel_rfl) (by kernel_rfl) ?_
              repeat (go_big_quiet_step ((first | (intro hw; with_reducible exact H3.out _ hw))))
              refine wpQuiet_nil ?_
              intro w4 hw4
              have HB4 := Lib.hid (show Below w.heap.size w w4 from HB3.out.trans (Below.mono hw4 HB3.out.size))
              clear hw4
              go_wp2
              go_ret
              exact ⟨by rw [HX.out]; rfl, HB4.out⟩
          · have y0 := hcy.c0
            have y1 := hcy.c1
            have y2 := hcy.c2
            have HY := Lib.hid hy
            have hwj : IntKind.i64.wrap (j : Int) = (j : Int) := IntWalk.i64_in _ (by omega)
            clear hcy hy
            cases hv : lt8 (pl y) (pl x) with
            | false =>
              have H2y := Lib.hid (H2.out y)
              rw [hv] at H2y
              have HX := Lib.hid (show R = false by
                rw [← HR.out]
                refine HNO.out fun h => ?_
                rw [HT.out, rl_snoc] at h
                have := h.2.2.1 y HY.out
                rw [hv] at this
                cases this)
              clear hv
              go_wp2_with fail
              refine wp_region_old (by kernel_rfl) (by kernel_rfl) ?_
              repeat (go_big_quiet_step ((first | (intro hw; with_reducible exact H1.out _ _ hw) | (intro hw; with_reducible exact H2y.out _ _ hw))))
              refine wpQuiet_nil ?_
              intro w3 hw3
              have HB3 := Lib.hid (show Below w.heap.size w w3 from HBW.out.trans (Below.mono hw3 HBW.out.size))
              clear hw3
              go_wp2
              go_ret
              exact ⟨by rw [HX.out]; rfl, HB3.out⟩
            | true =>
              have H2y := Lib.hid (H2.out y)
              rw [hv] at H2y
              have HLA := Lib.hid (show ∀ z, (l.take k).getLast? = some z → lt8 (pl z) (pl x) = true from fun z hz => by
                have := HY.out.symm.trans hz
                cases this
                exact hv)
              clear hv
              go_wp2_with fail
              refine wp_region_old (by kernel_rfl) (by kernel_rfl) ?_
              repeat (go_big_quiet_step ((first | (intro hw; with_reducible exact H1.out _ _ hw) | (intro hw; with_reducible exact H2y.out _ _ hw))))
              refine wpQuiet_nil ?_
              intro w3 hw3
              have HB3 := Lib.hid (show Below w.heap.size w w3 from HBW.out.trans (Below.mono hw3 HBW.out.size))
              clear y0 y1 y2
              have HQ3 := Lib.hid (HQ.out.below hw3)
              have HE3 := Lib.hid (RowN.below HEW.out hw3)
              clear hw3 q0 q1 q2 c0 c1 c2
              have q0 := HQ3.out.c0
              have q1 := HQ3.out.c1
              have q2 := HQ3.out.c2
              have H3 : Hid (∀ w', OldC w3 w' → Calls Tryd.prog 34 #[.slice (some ⟨b, off, none⟩) k cap, entV x.1 x.2.1 x.2.2] w' fun r w'' => r = .returned (.bool (decide (inD (l.take k) x))) ∧ OldC w3 w'') := fun w' hw' => by
                have hc := housed9 (l.take k) (some ⟨b, off, none⟩) cap x w' (Ents.take (RowN.below HE3.out hw') k) HI.out.2.1 (by rw [List.length_take]; omega) HVX.out
                rw [List.length_take, Nat.min_eq_left (by omega)] at hc
                refine hc.mono ?_
                rintro r w'' ⟨rfl, hb⟩
                exact ⟨rfl, hw'.then hb⟩
              by_cases hin : inD (l.take k) x
              · rw [decide_eq_true hin] at H3
                have HN := Lib.hid (show RL (l.take (k + 1)) by rw [HT.out, rl_snoc]; exact ⟨HI.out, HVX.out, HLA.out, hin⟩)
                clear hin
                go_wp2_with fail
                refine wp_region_old (by kernel_rfl) (by kernel_rfl) ?_
                repeat (go_big_quiet_step ((first | (intro hw; with_reducible exact H3.out _ hw))))
                refine wpQuiet_nil ?_
                intro w4 hw4
                have HB4 := Lib.hid (show Below w.heap.size w w4 from HB3.out.trans (Below.mono hw4 HB3.out.size))
                clear hw4
                go_wp2
                go_roundg (gk - 1)
                case measure => omega
                case rel => exact ⟨k + 1, by simp, by omega, HN.out, HB4.out⟩
              · rw [decide_eq_false hin] at H3
                have HX := Lib.hid (show R = false by
                  rw [← HR.out]
                  refine HNO.out fun h => ?_
                  rw [HT.out, rl_snoc] at h
                  exact hin h.2.2.2)
                clear hin
                go_wp2_with fail
                refine wp_region_old (by kernel_rfl) (by kernel_rfl) ?_
                repeat (go_big_quiet_step ((first | (intro hw; with_reducible exact H3.out _ hw))))
                refine wpQuiet_nil ?_
                intro w4 hw4
                have HB4 := Lib.hid (show Below w.heap.size w w4 from HB3.out.trans (Below.mono hw4 HB3.out.size))
                clear hw4
                go_wp2
                go_ret
                exact ⟨by rw [HX.out]; rfl, HB4.out⟩
      · have hlt' : ¬ (k : Int) < (l.length : Int) := by omega
        have HX := Lib.hid (show R = true by
          rw [← HR.out]
          have := HI.out
          rw [List.take_of_length_le (by omega)] at this
          exact decide_eq_true ⟨HL.out, this⟩)
        go_wp2
        go_ret
        exact ⟨by rw [HX.out]; rfl, HB.out⟩
  · have g64 : (64 : Int) < (l.length : Int) := by omega
    have HX := Lib.hid (show R = false by rw [← HR.out]; exact decide_eq_false fun h => h64 h.1)
    clear h hs h64
    go_enter Tryd.func13, Tryd.ntmps13
    go_wp2
    go_ret
    exact ⟨by rw [HX.out]; rfl, Below.refl _ _⟩
end Go.Proofs.YtflomllfehoedaaDoor

namespace Go.Proofs.YtflomllfehoedaaDoor
open Go.RowKit

/-- An entry's bytes. -/
def enB (e : Ent) : List UInt8 := (layE e.1 e.2.1.toNat e.2.2).data.toList
/-- The entries' bytes. -/
def ensB (l : List Ent) : List UInt8 := l.flatMap enB
/-- How many, and the entries. -/
def layB (l : List Ent) : List UInt8 := dg l.length ++ ensB l
/-- With the sum. -/
def layT (b : List UInt8) : List UInt8 := b ++ (four (adl b)).data.toList
/-- A layer's text. -/
def layL (l : List Ent) : ByteArray := bs (layT (layB l))
theorem four_len (x : Int) : (four x).data.toList.length = 4 := rfl
theorem byte_inj {a b : Int} (ha : 0 ≤ a ∧ a < 256) (hb : 0 ≤ b ∧ b < 256) (h : UInt8.ofNat a.toNat = UInt8.ofNat b.toNat) : a = b := by
  have h1 := congrArg UInt8.toNat h
  rw [UInt8.toNat_ofNat', UInt8.toNat_ofNat'] at h1
  omega
theorem four_inj {x y : Int} (hx : 0 ≤ x ∧ x < 4294967296) (hy : 0 ≤ y ∧ y < 4294967296) (h : (four x).data.toList = (four y).data.toList) : x = y := by
  have e : ∀ z : Int, (four z).data.toList = [UInt8.ofNat (z / 16777216).toNat, UInt8.ofNat (z / 65536 % 256).toNat, UInt8.ofNat (z / 256 % 256).toNat, UInt8.ofNat (z % 256).toNat] := fun _ => rfl
  rw [e, e] at h
  simp only [List.cons.injEq, and_true] at h
  obtain ⟨h1, h2, h3, h4⟩ := h
  have h1 := byte_inj (by omega) (by omega) h1
  have h2 := byte_inj (by omega) (by omega) h2
  have h3 := byte_inj (by omega) (by omega) h3
  have h4 := byte_inj (by omega) (by omega) h4
  omega
theorem layT_len (b : List UInt8) : (layT b).length = b.length + 4 := by unfold layT; rw [List.length_append, four_len]
theorem layT_inj {a b : List UInt8} (h : layT a = layT b) : a = b := by
  have h1 := congrArg List.length h
  rw [layT_len, layT_len] at h1
  exact (List.append_inj h (by omega)).1
theorem enB_cut {a b : Ent} (ha : rE a = true) (hb : rE b = true) {x y : List UInt8} (h : enB a ++ x = enB b ++ y) : a = b ∧ x = y := by
  obtain ⟨h1, h2, h3, h4⟩ := layE_cut h
  obtain ⟨_, k1, _⟩ := rightE_parts ha
  obtain ⟨_, k2, _⟩ := rightE_parts hb
  refine ⟨?_, h4⟩
  obtain ⟨p, k, d⟩ := a
  obtain ⟨q, m, f⟩ := b
  simp only at *
  rw [h1, h3, show k = m by omega]
theorem ensB_inj : ∀ {a b : List Ent}, a.length = b.length → (∀ e ∈ a, rE e = true) → (∀ e ∈ b, rE e = true) → ∀ {x y : List UInt8}, ensB a ++ x = ensB b ++ y → a = b ∧ x = y
  | [], [], _, _, _, _, _, h => ⟨rfl, h⟩
  | [], _ :: _, h, _, _, _, _, _ => by simp at h
  | _ :: _, [], h, _, _, _, _, _ => by simp at h
  | c :: a, d :: b, hl, ha, hb, x, y, h => by
    simp only [ensB, List.flatMap_cons, List.append_assoc] at h
    obtain ⟨rfl, h2⟩ := enB_cut (ha c (by simp)) (hb d (by simp)) h
    obtain ⟨rfl, h3⟩ := ensB_inj (by simpa using hl) (fun e he => ha e (by simp [he])) (fun e he => hb e (by simp [he])) h2
    exact ⟨rfl, h3⟩
theorem layB_inj {a b : List Ent} (ha : ∀ e ∈ a, rE e = true) (hb : ∀ e ∈ b, rE e = true) (h : layB a = layB b) : a = b := by
  obtain ⟨h1, h2⟩ := dg_cut _ _ _ _ h
  exact (ensB_inj h1 ha hb (x := []) (y := []) (by simpa using h2)).1
theorem layL_list (l : List Ent) : (layL l).data.toList = layT (layB l) := bs_list _
theorem layL_inj {a b : List Ent} (ha : RightL a) (hb : RightL b) (h : (layL a).data.toList = (layL b).data.toList) : a = b := by
  rw [layL_list, layL_list] at h
  exact layB_inj ha.2.1 hb.2.1 (layT_inj h)
/-- With one byte changed no text has the sum that stands behind it. -/
theorem layT_set (b b' : List UInt8) (i : Nat) (c : UInt8) (hi : i < (layT b).length) (hc : (layT b)[i]? ≠ some c) : layT b' ≠ (layT b).set i c := fun h => by
  have hl := congrArg List.length h
  rw [List.length_set, layT_len, layT_len] at hl
  have hl : b'.length = b.length := by omega
  unfold layT at h
  by_cases hib : i < b.length
  · rw [List.set_append_left _ _ hib] at h
    obtain ⟨h1, h2⟩ := List.append_inj h (by rw [List.length_set]; exact hl)
    have h3 : adl b' = adl b := four_inj (adl_bd _) (adl_bd _) h2
    rw [h1, adl_set b i c hib] at h3
    apply hc
    rw [h3]
    unfold layT
    rw [List.getElem?_append_left hib, List.getElem?_eq_getElem hib]
  · rw [List.set_append_right _ _ (by omega)] at h
    obtain ⟨rfl, h2⟩ := List.append_inj h hl
    have hj : i - b'.length < (four (adl b')).data.toList.length := by rw [layT_len] at hi; rw [four_len]; omega
    have h3 : (four (adl b')).data.toList[i - b'.length]? = ((four (adl b')).data.toList.set (i - b'.length) c)[i - b'.length]? := congrArg (fun l : List UInt8 => l[i - b'.length]?) h2
    rw [List.getElem?_set_self hj] at h3
    apply hc
    unfold layT
    rw [List.getElem?_append_right (by omega)]
    exact h3
theorem enB_len {e : Ent} (h : rE e = true) : (enB e).length ≤ 337 := by
  obtain ⟨h1, h2, h3, h4, _⟩ := rightE_parts h
  have h54 := isP_len (isP_of_dp h1)
  unfold enB
  rw [layE_list]
  simp only [List.length_append]
  rw [← Lib.size_eq] at h54
  have a1 := dg_nine (n := e.2.1.toNat) (by omega)
  have a2 := dg_nine (n := e.1.size) (by omega)
  have a3 := dg_nine (n := e.2.2.size) (by omega)
  rw [← Lib.size_eq, ← Lib.size_eq]
  omega
theorem ensB_len : ∀ {l : List Ent}, (∀ e ∈ l, rE e = true) → (ensB l).length ≤ 337 * l.length
  | [], _ => by simp [ensB]
  | e :: r, h => by
    have h1 := enB_len (h e (by simp))
    have h2 := ensB_len fun x hx => h x (List.mem_cons_of_mem e hx)
    unfold ensB at *
    rw [List.flatMap_cons, List.length_append, List.length_cons]
    omega
theorem layB_len {l : List Ent} (h : RightL l) : (layB l).length ≤ 21600 := by
  have h1 := ensB_len h.2.1
  have h2 := dg_nine (n := l.length) (by have := h.1; omega)
  have h3 := h.1
  unfold layB
  rw [List.length_append]
  omega
theorem layL_size {l : List Ent} (h : RightL l) : (layL l).size ≤ 21604 := by
  have := layB_len h
  rw [Lib.size_eq, layL_list, layT_len]
  omega
theorem layL_pos (l : List Ent) : 4 < (layL l).size := by
  rw [Lib.size_eq, layL_list, layT_len]
  have : 0 < (dg l.length).length := dg_pos _
  unfold layB
  rw [List.length_append]
  omega
end Go.Proofs.YtflomllfehoedaaDoor

namespace Go.Proofs.YtflomllfehoedaaDoor
open Go.RowKit

/-- An error of a number, wrapped or not; nil, if it is 0. -/
def Er (w : World) (n : Int) (v : Value) : Prop := (n = 0 ∧ v = .nilIface) ∨ (n ≠ 0 ∧ IsErr w n v)
theorem Er.below {w w' : World} {n : Int} {v : Value} (h : Er w n v) (hb : Below w.heap.size w w') : Er w' n v := h.imp_right fun ⟨a, b⟩ => ⟨a, b.below hb⟩
theorem er_nil (w : World) : Er w 0 .nilIface := .inl ⟨rfl, rfl⟩
theorem code_er (n : Int) (v : Value) (w : World) (h : Er w n v) (hg : EtLaid w) : Calls Tryd.prog 12 #[v] w fun e w' => e = .returned (.int .i64 n) ∧ Below w.heap.size w w' := by
  rcases h with ⟨rfl, rfl⟩ | ⟨_, h⟩
  · refine (code_zero w).mono ?_
    rintro e w' ⟨rfl, rfl⟩
    exact ⟨rfl, Below.refl _ _⟩
  · exact code_isErr n v w h hg
def zE : Ent := (⟨#[]⟩, 0, ⟨#[]⟩)
def fdV (l : List Ent) (p : List UInt8) : Ent × Bool := if RightL l then (match fnd l p with
  | some e => (e, true)
  | none => (zE, false)) else (zE, false)
def ptV (l : List Ent) (e : Ent) : Int × List Ent := if RightL l ∧ rE e = true then (if fnd l (pl e) = none ∧ l.length = 64 then (9, []) else if RightL (wth l e) then (0, wth l e) else (16, [])) else (1, [])
def dpV (l : List Ent) (p : List UInt8) : Int × List Ent := if RightL l then (if fnd l p = none then (3, []) else if RightL (wout l p) then (0, wout l p) else (16, [])) else (1, [])
def lyV (l : List Ent) : Int × ByteArray := if RightL l then (0, layL l) else (1, ⟨#[]⟩)
def bwV (l : List Ent) (p : List UInt8) : List Ent := if RightL l then blw l p else []
structure Layer9 : Prop where
  right : ∀ l a cap w, EtLaid w → Ents w a cap l → Sm l → Calls Tryd.prog 13 #[.slice a l.length cap] w fun e w' => e = .returned (.bool (decide (RightL l))) ∧ Below w.heap.size w w'
  lay : ∀ l a cap w, EtLaid w → Ents w a cap l → Sm l → Calls Tryd.prog 11 #[.slice a l.length cap] w fun e w' => ∃ er, e = .returned (.tuple #[.string (lyV l).2, er]) ∧ Er w' (lyV l).1 er ∧ Below w.heap.size w w'
  read : ∀ s w, EtLaid w → s.size ≤ 100000 → Calls Tryd.prog 14 #[.string s] w fun e w' => ∃ a cap er l n, e = .returned (.tuple #[.slice a l.length cap, er]) ∧ Ents w' a cap l ∧ Er w' n er ∧ ((n = 0 ∧ RightL l ∧ s = layL l) ∨ ((n = 12 ∨ n = 13) ∧ l = [] ∧ ∀ m, RightL m → s ≠ layL m)) ∧ Below w.heap.size w w'
  find : ∀ l a cap p w, EtLaid w → Ents w a cap l → Sm l → p.size ≤ 100000 → Calls Tryd.prog 17 #[.slice a l.length cap, .string p] w fun e w' => e = .returned (.tuple #[enV (fdV l p.data.toList).1, .bool (fdV l p.data.toList).2]) ∧ Below w.heap.size w w'
  below : ∀ l a cap p w, EtLaid w → Ents w a cap l → Sm l → p.size ≤ 100000 → Calls Tryd.prog 21 #[.slice a l.length cap, .string p] w fun e w' => ∃ a' cap', e = .returned (.slice a' (bwV l p.data.toList).length cap') ∧ Ents w' a' cap' (bwV l p.data.toList) ∧ Below w.heap.size w w'
  put : ∀ l a cap x w, EtLaid w → Ents w a cap l → Sm l → Sm [x] → Calls Tryd.prog 16 #[.slice a l.length cap, enV x] w fun e w' => ∃ a' cap' er, e = .returned (.tuple #[.slice a' (ptV l x).2.length cap', er]) ∧ Ents w' a' cap' (ptV l x).2 ∧ Er w' (ptV l x).1 er ∧ Below w.heap.size w w'
  drop : ∀ l a cap p w, EtLaid w → Ents w a cap l → Sm l → p.size ≤ 100000 → Calls Tryd.prog 18 #[.slice a l.length cap, .string p] w fun e w' => ∃ a' cap' er, e = .returned (.tuple #[.slice a' (dpV l p.data.toList).2.length cap', er]) ∧ Ents w' a' cap' (dpV l p.data.toList).2 ∧ Er w' (dpV l p.data.toList).1 er ∧ Below w.heap.size w w'
end Go.Proofs.YtflomllfehoedaaDoor

namespace Go.Proofs.YtflomllfehoedaaDoor
open Go.RowKit

/-- The number that digits make. -/
def cv : List UInt8 → Nat
  | [] => 0
  | c :: l => c.toNat % 128 + 128 * cv l
theorem cv_snoc : ∀ (l : List UInt8) (c : UInt8), cv (l ++ [c]) = cv l + c.toNat % 128 * 128 ^ l.length
  | [], c => by simp [cv]
  | d :: l, c => by
    rw [List.cons_append, cv, cv, cv_snoc l c, List.length_cons, Nat.pow_succ, Nat.mul_add, ← Nat.add_assoc]
    congr 1
    rw [Nat.mul_comm 128, Nat.mul_assoc]
theorem cv_lt : ∀ l : List UInt8, cv l < 128 ^ l.length
  | [] => by simp [cv]
  | c :: l => by
    have h := cv_lt l
    rw [cv, List.length_cons, Nat.pow_succ]
    omega
theorem cv_pos : ∀ (l : List UInt8) (c : UInt8), c.toNat < 128 → c.toNat ≠ 0 → 1 ≤ cv (l ++ [c])
  | [], c, h, h0 => by simp [cv]; omega
  | d :: l, c, h, h0 => by
    have := cv_pos l c h h0
    rw [List.cons_append, cv]
    omega
theorem dg_cv : ∀ (l : List UInt8) (c : UInt8), (∀ x ∈ l, 128 ≤ x.toNat) → c.toNat < 128 → (c.toNat ≠ 0 ∨ l = []) → dg (cv (l ++ [c])) = l ++ [c]
  | [], c, _, h, _ => by
    have e : cv ([] ++ [c]) = c.toNat := by simp [cv]; omega
    rw [e, dg_last h]
    simp
  | d :: l, c, hl, h, h0 => by
    have hc : c.toNat ≠ 0 := by
      rcases h0 with h0 | h0
      · exact h0
      · cases h0
    have hd := hl d List.mem_cons_self
    have hd2 : d.toNat < 256 := d.toNat_lt
    have h1 := cv_pos l c h hc
    have ih := dg_cv l c (fun x hx => hl x (List.mem_cons_of_mem _ hx)) h (.inl hc)
    rw [List.cons_append, cv, dg_more (by omega)]
    have e1 : (d.toNat % 128 + 128 * cv (l ++ [c])) % 128 + 128 = d.toNat := by omega
    have e2 : (d.toNat % 128 + 128 * cv (l ++ [c])) / 128 = cv (l ++ [c]) := by omega
    rw [e1, e2, ih]
    simp
/-- Bytes that begin with no number up to most. -/
def Bad (s : ByteArray) (most : Int) : Prop := ∀ n rest, s.data.toList = dg n ++ rest → n ≤ 4611686018427387904 → ¬ (n : Int) ≤ most
/-- What is thrown. -/
abbrev thrown : Ending := .panicked [{ v := .iface 52 (.int .i64 13), recovered := false }]
theorem wrap_lt {e : Nat} (h : e < 9223372036854775808) : wrap64 (e : Int) = (e : Int) := by
  unfold wrap64
  omega
theorem need_false (w : World) : Calls Tryd.prog 85 #[.bool false] w fun e w' => e = thrown ∧ w = w' := by
  go_enter Tryd.func85, Tryd.ntmps85
  go_wp2
  exact ⟨rfl, rfl, rfl⟩

set_option maxRecDepth 10000 in
set_option maxHeartbeats 2000000 in
theorem number_bad (most : Int) (s : ByteArray) (hb : Bad s most) (hz : s.size ≤ maxLen) (w : World) :
    Calls Tryd.prog 78 #[.string s, .int .i64 most] w fun e w' => e = thrown ∧ w = w' := by
  have HBad := Lib.hid hb
  have HZ : Hid (s.size ≤ 9223372036854775807) := by unfold maxLen at hz; exact (by omega : s.size ≤ 9223372036854775807)
  clear hb hz
  rcases Int.lt_or_le 9 (s.size : Int) with hsz | hsz
  all_goals
    go_enter Tryd.func78, Tryd.ntmps78
    go_wp2
    go_loopg [6, 11] 9 (fun g a i wr => ∃ (k acc : Nat), a = .int .i64 (acc : Int) ∧ i = .int .i64 (k : Int) ∧ Hid (k + g = 9 ∧ acc = cv (s.data.toList.take k) ∧ (∀ x ∈ s.data.toList.take k, 128 ≤ x.toNat) ∧ k ≤ s.size ∧ w = wr))
    case atStart => exact ⟨0, 0, rfl, rfl, rfl, rfl, by simp, Nat.zero_le _, rfl⟩
    case round =>
      obtain ⟨k, acc, rfl, rfl, HR⟩ := hrel
      obtain ⟨h1, h2, h3, h4, rfl⟩ := HR.out
      have HG := Lib.hid h1
      by_cases hlt : k < 9 ∧ k < s.size
      · have hk9' : (k : Int) < 9 := by omega
        have hkz : (k : Int) < (s.size : Int) := by omega
        obtain ⟨hk9, hk⟩ := hlt
        obtain ⟨d, hd⟩ : ∃ d, s[k].toNat = d := ⟨_, rfl⟩
        have hd2 : d < 256 := by rw [← hd]; exact s[k].toNat_lt
        have hb : (s[k].toNat : Int) = (d : Int) := by rw [hd]
        have htk : s.data.toList.take (k + 1) = s.data.toList.take k ++ [s[k]] := by rw [List.take_add_one, List.getElem?_eq_getElem (by have := Lib.size_eq s; omega)]; rfl
        obtain ⟨r, hrr⟩ : ∃ r, d % 128 = r := ⟨_, rfl⟩
        obtain ⟨e, hee⟩ : ∃ e, r * 2 ^ (7 * k) = e := ⟨_, rfl⟩
        obtain ⟨a2, haa⟩ : ∃ a2, acc + e = a2 := ⟨_, rfl⟩
        have hlen : (s.data.toList.take k).length = k := by rw [List.length_take]; have := Lib.size_eq s; omega
        have hcv : cv (s.data.toList.take (k + 1)) = a2 := by
          rw [htk, cv_snoc, hlen, ← h2, hd, hrr, ← haa, ← hee, Nat.pow_mul]
        have ha2 : a2 < 9223372036854775808 := by
          have h5 := cv_lt (s.data.toList.take (k + 1))
          rw [hcv, htk, List.length_append, hlen, List.length_singleton] at h5
          have h6 : 128 ^ (k + 1) ≤ 128 ^ 9 := Nat.pow_le_pow_right (by decide) (by omega)
          omega
        have w1 : wrap64 ((r : Int) * 2 ^ (7 * k)) = (e : Int) := by
          have h5 : (r : Int) * 2 ^ (7 * k) = (e : Int) := by rw [← hee]; push_cast; rfl
          rw [h5]
          exact wrap_lt (by omega)
        have w2 : wrap64 ((acc : Int) + (e : Int)) = (a2 : Int) := by
          rw [show (acc : Int) + (e : Int) = (a2 : Int) by omega]
          exact wrap_lt ha2
        have hmod : (d : Int) % 128 = (r : Int) := by omega
        by_cases hge : 128 ≤ d
        · have hge' : (128 : Int) ≤ (d : Int) := by omega
          have HNX : Hid (a2 = cv (s.data.toList.take (k + 1)) ∧ (∀ x ∈ s.data.toList.take (k + 1), 128 ≤ x.toNat) ∧ k + 1 ≤ s.size) := by
            refine ⟨hcv.symm, fun x hx => ?_, hk⟩
            rw [htk] at hx
            rcases List.mem_append.1 hx with hx | hx
            · exact h3 x hx
            · rw [List.mem_singleton.1 hx, hd]; exact hge
          clear h1 h2 h3 h4 HR hcv htk hlen hee haa hrr hd ha2 hge hd2
          go_wp2
          go_roundg (gk - 1)
          case measure => have := HG.out; omega
          case rel => exact ⟨k + 1, a2, congrArg _ w2, by go_num, by have := HG.out; omega, HNX.out.1, HNX.out.2.1, HNX.out.2.2, rfl⟩
        · have hge' : ¬ (128 : Int) ≤ (d : Int) := by omega
          have HD : Hid ((d ≠ 0 ∨ k = 0) → a2 ≤ 4611686018427387904 → ¬ (a2 : Int) ≤ most) := fun h5 h6 => by
            refine HBad.out a2 (s.data.toList.drop (k + 1)) ?_ h6
            have h7 := dg_cv (s.data.toList.take k) s[k] h3 (by rw [hd]; omega) (by
              rcases h5 with h5 | h5
              · exact .inl (by rw [hd]; exact h5)
              · exact .inr (by rw [h5]; rfl))
            rw [← htk, hcv] at h7
            rw [h7, List.take_append_drop]
          clear h1 h2 h3 h4 HR hcv htk hlen hee haa hrr hd hge hd2
          by_cases hz0 : d = 0 ∧ k ≠ 0
          · have hk0 : ((k : Int) == 0) = false := by simp; omega
            have hdz : ((d : Int) != 0) = false := by simp; omega
            clear HD
            go_wp2_with fail
            refine (need_false _).mono ?_
            rintro e w' ⟨rfl, rfl⟩
            go_wp2
            exact ⟨rfl, rfl, rfl⟩
          · have HD2 := Lib.hid (HD.out (by omega))
            clear HD
            have hor : ((d : Int) != 0) = true ∨ (((d : Int) != 0) = false ∧ ((k : Int) == 0) = true) := by
              by_cases h8 : d = 0
              · exact .inr ⟨by simp; omega, by simp; omega⟩
              · exact .inl (by simp; omega)
            clear hz0
            rcases hor with hdz | ⟨hdz, hk0⟩
            all_goals
              go_wp2_with fail
              refine (need_true _).mono ?_
              rintro e w' ⟨rfl, rfl⟩
              by_cases h9 : a2 ≤ 4611686018427387904
              · have h9' : (a2 : Int) ≤ 4611686018427387904 := by omega
                have h10 : ¬ (a2 : Int) ≤ most := by have := HD2.out h9; omega
                clear HD2
                go_wp2_with fail
                rw [show decide ((a2 : Int) ≤ most) = false from decide_eq_false (by omega)]
                refine (need_false _).mono ?_
                rintro e w' ⟨rfl, rfl⟩
                go_wp2
                exact ⟨rfl, rfl, rfl⟩
              · have h9' : ¬ (a2 : Int) ≤ 4611686018427387904 := by omega
                clear HD2
                go_wp2_with fail
                refine (need_false _).mono ?_
                rintro e w' ⟨rfl, rfl⟩
                go_wp2
                exact ⟨rfl, rfl, rfl⟩
      · have hnl : ¬ ((k : Int) < 9 ∧ (k : Int) < (s.size : Int)) := by omega
        have hnl2 : ¬ (k : Int) < 9 ∨ ¬ (k : Int) < (s.size : Int) := by omega
        first
          | (have hx : ¬ (k : Int) < 9 := by omega
             clear h1 h2 h3 h4 HR hlt hnl hnl2
             go_wp2
             exact ⟨rfl, rfl, rfl⟩)
          | (have hx : ¬ (k : Int) < (s.size : Int) := by omega
             clear h1 h2 h3 h4 HR hlt hnl hnl2
             go_wp2
             exact ⟨rfl, rfl, rfl⟩)

theorem num1_bad (most : Int) (s : ByteArray) (hb : Bad s most) (hz : s.size ≤ maxLen) (q : Nat) (w : World) (hq : w.cell? ⟨q, 0, none⟩ = some (.int .i64 most)) :
    Calls Tryd.prog 77 #[.string s, .pointer (some ⟨q, 0, none⟩)] w fun e w' => e = thrown ∧ w = w' := by
  have H := Lib.hid (number_bad most s hb hz w)
  clear hb hz
  go_enter Tryd.func77, Tryd.ntmps77
  go_wp2_with fail
  refine H.out.mono ?_
  rintro e w1 ⟨rfl, rfl⟩
  go_wp2
  exact ⟨rfl, rfl, rfl⟩
end Go.Proofs.YtflomllfehoedaaDoor

namespace Go.Proofs.YtflomllfehoedaaDoor
open Go.RowKit

set_option maxRecDepth 20000 in
set_option maxHeartbeats 4000000 in
theorem catchI_thrown (p : Addr) (old : Value) (w : World) (hc : w.cell? p = some old) (hz : w.frozen? p = false) :
    CallsD Tryd.prog 84 #[.pointer (some p)] (.panicking [{ v := .iface 52 (.int .i64 13), recovered := false }]) w fun e u' w' => e = .returned (.tuple #[]) ∧ u' = .panicking [{ v := .iface 52 (.int .i64 13), recovered := true }] ∧ w' = w.setCell p (.iface 52 (.int .i64 13)) := by
  have hta : ∀ w : World, (Instr.typeAssert (.iface 52 (.int .i64 13)) 20 52 true).run Tryd.prog w = .ok (.tuple #[.int .i64 13, .bool true]) w := fun _ => by kernel_rfl
  refine callsD_of_wpS Tryd.func84 rfl fun c₀ cs hu => ?_
  apply wpS_seq
  apply wpS_region
  simp [wpOpsS, go_sem, recoverD, hu, Tryd.ntmps84, Exit.thenS]
  refine wpS_of_wp ?_
  change Code.wp _ _ _ ⟨#[.pointer (some p), .iface 52 (.int .i64 13), undef, undef, .iface 52 (.int .i64 13), undef, undef, undef, undef, undef, undef, undef, undef, undef, undef, undef, undef], []⟩ _
  go_wp2
  cases c₀
  simp_all [bodyPostS, results, Tryd.results84]

set_option maxRecDepth 10000 in
set_option maxHeartbeats 2000000 in
theorem takeI_bad (most : Int) (s : ByteArray) (hb : Bad s most) (hz : s.size ≤ 4611686018427387904) (p q : Nat) (w : World) (hp : Rd w p s) (hq : w.cell? ⟨q, 0, none⟩ = some (.int .i64 most)) (hqw : q < w.heap.size) :
    Calls Tryd.prog 76 #[.pointer (some ⟨p, 0, none⟩), .func (.func 77) #[] #[.pointer (some ⟨q, 0, none⟩)]] w fun e w' => e = .returned (.tuple #[.int .i64 0, .iface 52 (.int .i64 13)]) ∧ Below w.heap.size w w' := by
  have hmf : ∀ (fn : Fn) (first cap : Array Value) (w : World), (Instr.makeFunc fn first cap).run Tryd.prog w = .ok (.func fn first cap) w := fun _ _ _ _ => rfl
  have hB : Below w.heap.size w (w.alloc (.cells #[.nilIface] 27)) := (Below.refl _ _).alloc (Nat.le_refl _) _
  have H := Lib.hid (num1_bad most s hb (by unfold maxLen; omega) q (w.alloc (.cells #[.nilIface] 27)) ((hB.cell (p := ⟨q, 0, none⟩) hqw).trans hq))
  have hp1 := hp.below hB
  have hc := hp1.2.1
  have HB := Lib.hid hB
  clear hp hp1 hB hb hz hq hqw
  obtain ⟨n1, n2⟩ := fnew w .nilIface 27
  have N1 := Lib.hid n1
  have N2 := Lib.hid n2
  clear n1 n2
  go_enter_defers Tryd.func76, Tryd.ntmps76
  go_wp2_with fail
  refine H.out.mono ?_
  rintro e w2 ⟨rfl, rfl⟩
  go_wp2
  refine leaves_cons (f := 84) (args := #[.pointer (some ⟨w.heap.size, 0, none⟩)]) (by simp) (by simp [go_sem]) ?_
  refine (catchI_thrown ⟨w.heap.size, 0, none⟩ .nilIface _ N1.out N2.out).mono ?_
  rintro e u' w'' ⟨rfl, rfl, rfl⟩
  simp [Leaves, settle, results, Tryd.results76, go_sem]
  exact (Below.refl _ _).alloc (Nat.le_refl _) _
theorem takeI_nil (f : Value) (w : World) :
    Calls Tryd.prog 76 #[.pointer none, f] w fun e w' => e = .returned (.tuple #[.int .i64 0, .iface 52 (.int .i64 1)]) ∧ Below w.heap.size w w' := by
  go_enter_defers Tryd.func76, Tryd.ntmps76
  go_wp2
  simp [bodyPostD, Leaves, results, Tryd.results76, go_sem]
  exact (Below.refl _ _).alloc (Nat.le_refl _) _
set_option maxHeartbeats 1000000 in
theorem rNum_bad (most : Int) (s : ByteArray) (hb : Bad s most) (hz : s.size ≤ 4611686018427387904) (p : Nat) (w : World) (hp : Rd w p s) :
    Calls Tryd.prog 59 #[.pointer (some ⟨p, 0, none⟩), .int .i64 most] w fun e w' => e = .returned (.tuple #[.int .i64 0, .iface 52 (.int .i64 13)]) ∧ Below w.heap.size w w' := by
  have hmf : ∀ (fn : Fn) (first cap : Array Value) (w : World), (Instr.makeFunc fn first cap).run Tryd.prog w = .ok (.func fn first cap) w := fun _ _ _ _ => rfl
  have hB : Below w.heap.size w (w.alloc (.cells #[.int .i64 most] 3)) := (Below.refl _ _).alloc (Nat.le_refl _) _
  have H := Lib.hid (takeI_bad most s hb hz p w.heap.size (w.alloc (.cells #[.int .i64 most] 3)) (hp.below hB) (fnew w (.int .i64 most) 3).1 (by simp))
  have HB := Lib.hid hB
  clear hB hb hz hp
  go_enter Tryd.func59, Tryd.ntmps59
  go_wp2_with fail
  refine H.out.mono ?_
  rintro e w2 ⟨rfl, hb⟩
  have HE := Lib.hid (HB.out.trans (hb.mono (by simp)))
  clear hb
  go_wp2
  go_ret2
  exact ⟨rfl, HE.out⟩
set_option maxHeartbeats 1000000 in
theorem rNum_nil (most : Int) (w : World) :
    Calls Tryd.prog 59 #[.pointer none, .int .i64 most] w fun e w' => e = .returned (.tuple #[.int .i64 0, .iface 52 (.int .i64 1)]) ∧ Below w.heap.size w w' := by
  have hmf : ∀ (fn : Fn) (first cap : Array Value) (w : World), (Instr.makeFunc fn first cap).run Tryd.prog w = .ok (.func fn first cap) w := fun _ _ _ _ => rfl
  have HB := Lib.hid (show Below w.heap.size w (w.alloc (.cells #[.int .i64 most] 3)) from (Below.refl _ _).alloc (Nat.le_refl _) _)
  go_enter Tryd.func59, Tryd.ntmps59
  go_wp2_with fail
  refine (takeI_nil _ _).mono ?_
  rintro e w2 ⟨rfl, hb⟩
  have HE := Lib.hid (HB.out.trans (hb.mono (by simp)))
  clear hb
  go_wp2
  go_ret2
  exact ⟨rfl, HE.out⟩
/-- Bytes begin with a number up to most, or don't. -/
theorem bad_or (s : ByteArray) (most : Int) : Bad s most ∨ ∃ n rest, s.data.toList = dg n ++ rest ∧ n ≤ 4611686018427387904 ∧ (n : Int) ≤ most := by
  by_cases h : ∃ n rest, s.data.toList = dg n ++ rest ∧ n ≤ 4611686018427387904 ∧ (n : Int) ≤ most
  · exact .inr h
  · exact .inl fun n rest h1 h2 h3 => h ⟨n, rest, h1, h2, h3⟩
end Go.Proofs.YtflomllfehoedaaDoor
