/-
  A disk of a call's own, as the statements of layer 5 use it: every call of the landed disk over one state; fail.Code of what it answers; the document's example. Condition: errorType holds error's type.
-/
import Derived.Test.YtgjakhfmjnpkcaaDoorS5Write2
import Derived.Test.YtgjakhfmjnpkcaaDoorS5Crash
import Derived.Test.YtgjakhfmjnpkcaaDoorAs0
namespace Go.Proofs.YtgjakhfmjnpkcaaDoor
open Go.RowKit Go.Maps

/-- Block b is a disk that holds D; its blocks are those of F, none of which was there in W; below B all is as it was in W. -/
structure Ses (W : World) (B : Nat) (F : Nat → Prop) (b : Nat) (D : DskV) (w : World) : Prop where
  dsk : IsDsk w F b D
  up : ∀ k, F k → B ≤ k
  below : Below B W w
  base : B ≤ W.heap.size
  et : EtLaid w
/-- What a call of it may do. -/
structure Did (F F' : Nat → Prop) (w w' : World) : Prop where
  fr : Fr F w w'
  new : ∀ k, F' k → F k ∨ w.heap.size ≤ k
section
variable {W w : World} {B : Nat} {F : Nat → Prop} {b : Nat} {D : DskV}
theorem Ses.etB (h : Ses W B F b D w) (hB : 0 < B) {w' : World} (hb : Below B w w') : EtLaid w' := h.et.below hB hb
theorem Did.refl (F : Nat → Prop) (w : World) : Did F F w w := ⟨Fr.refl _ _, fun _ h => .inl h⟩
theorem Did.of_below {F : Nat → Prop} {w w' : World} (h : Below w.heap.size w w') : Did F F w w' := ⟨Fr.of_below h, fun _ h => .inl h⟩
theorem Did.trans {F F1 F2 : Nat → Prop} {w w1 w2 : World} (h : Did F F1 w w1) (k : Did F1 F2 w1 w2) : Did F F2 w w2 :=
  ⟨h.fr.trans k.fr h.new, fun j hj => (k.new j hj).elim (h.new j) fun e => .inr (Nat.le_trans h.fr.size e)⟩
/-- Another block is left alone. -/
theorem Did.block {F F' : Nat → Prop} {w w' : World} (h : Did F F' w w') {k : Nat} (hk : k < w.heap.size) (hF : ¬ F k) : w'.heap[k]? = w.heap[k]? ∧ ¬ F' k ∧ k < w'.heap.size :=
  ⟨h.fr.block k hk hF, fun e => (h.new k e).elim hF fun e => by omega, Nat.lt_of_lt_of_le hk h.fr.size⟩
theorem Ses.keep (h : Ses W B F b D w) {w' : World} (hb : Below w.heap.size w w') : Ses W B F b D w' :=
  ⟨h.dsk.below hb, h.up, h.below.trans (hb.mono (Nat.le_trans h.base h.below.size)), h.base, h.et.below h.et.lt hb⟩
theorem Ses.step (h : Ses W B F b D w) (hB : 0 < B) {w' : World} {F' : Nat → Prop} {D' : DskV} (hd : IsDsk w' F' b D') (k : Did F F' w w') : Ses W B F' b D' w' := by
  have hs : B ≤ w.heap.size := Nat.le_trans h.base h.below.size
  have hb := k.fr.below hs h.up
  exact ⟨hd, fun j hj => (k.new j hj).elim (h.up j) fun e => by omega, h.below.trans hb, h.base, h.et.below hB hb⟩
end
theorem code_err (n : Int) (w : World) (hg : EtLaid w) : Calls Tryd.prog 10 #[errV n] w fun e w' => e = .returned (.int .i64 n) ∧ Below w.heap.size w w' := by
  unfold errV
  split
  · rename_i h
    subst h
    refine (code_zero w).mono ?_
    rintro e w' ⟨rfl, rfl⟩
    exact ⟨rfl, Below.refl _ _⟩
  · exact code_no n w hg
section
variable {W w : World} {B : Nat} {F : Nat → Prop} {b : Nat} {D : DskV}
theorem ses_new (n : Int) (h1 : 1 ≤ n) (h2 : n ≤ 2048) (hb : Below B W w) (hB : B ≤ W.heap.size) (hg : EtLaid w) : Calls Tryd.prog 9 #[.int .i64 n] w fun e w' => ∃ b F, e = .returned (.tuple #[.pointer (some ⟨b, 0, none⟩), errV 0]) ∧ Ses W B F b (DskV.fresh n) w' ∧ Below w.heap.size w w' ∧ ∀ k, F k → w.heap.size ≤ k := by
  refine (new_good n h1 h2 w).mono ?_
  rintro e w' ⟨F, b, rfl, hd, hb2, hF⟩
  have hs : B ≤ w.heap.size := Nat.le_trans hB hb.size
  exact ⟨b, F, rfl, ⟨hd, fun k hk => Nat.le_trans hs (hF k hk), hb.trans (hb2.mono hs), hB, hg.below hg.lt hb2⟩, hb2, hF⟩
theorem ses_code (h : Ses W B F b D w) (n : Int) : Calls Tryd.prog 10 #[errV n] w fun e w' => e = .returned (.int .i64 n) ∧ Ses W B F b D w' ∧ Below w.heap.size w w' := by
  refine (code_err n w h.et).mono ?_
  rintro e w' ⟨rfl, hb⟩
  exact ⟨rfl, h.keep hb, hb⟩
theorem ses_read (h : Ses W B F b D w) (i : Int) : Calls Tryd.prog 19 #[.pointer (some ⟨b, 0, none⟩), .int .i64 i] w fun e w' => e = .returned (.tuple #[pgv (D.seen i), errV (D.why i)]) ∧ Ses W B F b D w' ∧ Below w.heap.size w w' := by
  refine (read_any h.dsk i).mono ?_
  rintro e w' ⟨rfl, hb⟩
  exact ⟨rfl, h.keep hb, hb⟩
/-- What a write leaves. -/
def DskV.wrote (D : DskV) (i : Int) (p : PgL) : DskV := if D.refuse i = 0 then D.write i p else D
theorem refuse_zero {D : DskV} {i : Int} (h : D.refuse i = 0) : D.why i = 0 ∧ D.budget ≠ 0 := by
  unfold DskV.refuse at h
  split at h
  · rename_i hy
    split at h
    · omega
    · rename_i hb
      exact ⟨hy, hb⟩
  · rename_i hy
    exact absurd h hy
theorem ses_write (h : Ses W B F b D w) (hB : 0 < B) (i : Int) (p : PgL) (hp : p.length = 64) (hf : D.soft.length < 1000) : Calls Tryd.prog 18 #[.pointer (some ⟨b, 0, none⟩), .int .i64 i, pgv p] w fun e w' => e = .returned (errV (D.refuse i)) ∧ ∃ F', Ses W B F' b (D.wrote i p) w' ∧ Did F F' w w' := by
  unfold DskV.wrote
  by_cases hr : D.refuse i = 0
  · rw [if_pos hr, hr]
    obtain ⟨hy, hb0⟩ := refuse_zero hr
    refine (write_done h.dsk i p hp hy hb0 hf).mono ?_
    rintro e w' ⟨rfl, F', hd, hfr, hn⟩
    exact ⟨rfl, F', h.step hB hd ⟨hfr, hn⟩, ⟨hfr, hn⟩⟩
  · rw [if_neg hr]
    refine (write_bad h.dsk i p hr).mono ?_
    rintro e w' ⟨rfl, hb⟩
    exact ⟨rfl, F, h.keep hb, Did.of_below hb⟩
/-- What a flush answers, and leaves. -/
def DskV.flushed (D : DskV) : DskV := if D.down then D else D.flush
theorem ses_flush (h : Ses W B F b D w) (hB : 0 < B) : Calls Tryd.prog 13 #[.pointer (some ⟨b, 0, none⟩)] w fun e w' => e = .returned (errV (if D.down then 11 else 0)) ∧ ∃ F', Ses W B F' b D.flushed w' ∧ Did F F' w w' := by
  unfold DskV.flushed
  cases hd : D.down with
  | true =>
    refine (flush_down h.dsk hd).mono ?_
    rintro e w' ⟨rfl, rfl⟩
    exact ⟨rfl, F, h, Did.refl _ _⟩
  | false =>
    refine (flush_up h.dsk hd).mono ?_
    rintro e w' ⟨rfl, F', hd, hfr, hn⟩
    exact ⟨rfl, F', h.step hB hd ⟨hfr, hn⟩, ⟨hfr, hn⟩⟩
theorem ses_crash (h : Ses W B F b D w) (hB : 0 < B) (m : Int) (hm0 : 0 ≤ m) (hm1 : m ≤ 18446744073709551615) : Calls Tryd.prog 14 #[.pointer (some ⟨b, 0, none⟩), .int .u64 m] w fun e w' => e = .returned (.tuple #[]) ∧ ∃ F', Ses W B F' b (D.crash m) w' ∧ Did F F' w w' := by
  refine (crash_any h.dsk m hm0 hm1).mono ?_
  rintro e w' ⟨rfl, F', hd, hfr, hn⟩
  exact ⟨rfl, F', h.step hB hd ⟨hfr, hn⟩, ⟨hfr, hn⟩⟩
theorem ses_up (h : Ses W B F b D w) (hB : 0 < B) : Calls Tryd.prog 15 #[.pointer (some ⟨b, 0, none⟩)] w fun e w' => e = .returned (.tuple #[]) ∧ Ses W B F b { D with down := false } w' ∧ Did F F w w' := by
  refine (up_any h.dsk).mono ?_
  rintro e w' ⟨rfl, hd, hfr⟩
  exact ⟨rfl, h.step hB hd ⟨hfr, fun _ hk => .inl hk⟩, ⟨hfr, fun _ hk => .inl hk⟩⟩
theorem ses_budget (h : Ses W B F b D w) (hB : 0 < B) (n : Int) (hn : n ≤ 9223372036854775807) : Calls Tryd.prog 16 #[.pointer (some ⟨b, 0, none⟩), .int .i64 n] w fun e w' => e = .returned (.tuple #[]) ∧ Ses W B F b { D with budget := if n < -1 then -1 else n } w' ∧ Did F F w w' := by
  refine (budget_any h.dsk n hn).mono ?_
  rintro e w' ⟨rfl, hd, hfr⟩
  exact ⟨rfl, h.step hB hd ⟨hfr, fun _ hk => .inl hk⟩, ⟨hfr, fun _ hk => .inl hk⟩⟩
end

/-- A page in a new block. -/
theorem Ses.box {W w : World} {B : Nat} {F : Nat → Prop} {b : Nat} {D : DskV} (h : Ses W B F b D w) (o : Obj) : Ses W B F b D (w.alloc o) ∧ ¬ F w.heap.size ∧ w.heap.size < (w.alloc o).heap.size :=
  ⟨h.keep ((Below.refl _ _).alloc (Nat.le_refl _) _), fun e => Nat.lt_irrefl _ (h.dsk.lt _ e), by simp⟩
/-- Two pages' values compared, for the walk. -/
noncomputable def pvEq (u v : Value) : Bool := by
  classical
  exact decide (u = v)
theorem pvEq_agg (a b : PgL) : pvEq (.agg (cellsB a).toArray) (.agg (cellsB b).toArray) = (a == b) := by
  unfold pvEq
  by_cases e : a = b
  · subst e
    simp
  · have : ¬ (Value.agg (cellsB a).toArray = Value.agg (cellsB b).toArray) := fun h => e (cellsB_inj (by
      have h := Value.agg.inj h
      simpa using congrArg Array.toList h))
    simp [this, e]
theorem run_guardE (w : World) (x y : Operand) (c c' : Array Value) : (eqGuard .eql 37 x y (.agg c) (.agg c')).run Tryd.prog w = .ok () w := by
  simp [eqGuard]
theorem run_guardN (w : World) (x y : Operand) (c c' : Array Value) : (eqGuard .neq 37 x y (.agg c) (.agg c')).run Tryd.prog w = .ok () w := by
  simp [eqGuard]
theorem eqw_pg {d : Option Tmp} {ty t2 : TypeId} {pos : String} {af : Array Edge} {g : Option (Nat × Bool)} {x y : Operand} {a : Act} {w : World} {K : Act → World → Prop} {Q : Exit → Act → World → Prop} (hx : IsPv (a.eval x)) (hy : IsPv (a.eval y)) :
    Oper.wp Tryd.prog { dst := d, op := .binOp .eql 37 x y t2, type := ty, pos := pos, after := af, guard := g } a w K Q = K (a.put d (.bool (pvEq (a.eval x) (a.eval y)))) w := by
  obtain ⟨l, hl, h1⟩ := hx
  obtain ⟨k, hk, h2⟩ := hy
  have h := page_eql w l k hl hk
  unfold Oper.wp execOp
  rw [h1, h2, pvEq_agg]
  simp only [Sem.run_bind, Sem.run_pure, Result.andThen_ok, h1, h2, run_guardE, h]
  rfl
theorem new_pg {d : Option Tmp} {ty t2 : TypeId} {pos : String} {af : Array Edge} {g : Option (Nat × Bool)} {x y : Operand} {a : Act} {w : World} {K : Act → World → Prop} {Q : Exit → Act → World → Prop} (hx : IsPv (a.eval x)) (hy : IsPv (a.eval y)) :
    Oper.wp Tryd.prog { dst := d, op := .binOp .neq 37 x y t2, type := ty, pos := pos, after := af, guard := g } a w K Q = K (a.put d (.bool (!pvEq (a.eval x) (a.eval y)))) w := by
  obtain ⟨l, hl, h1⟩ := hx
  obtain ⟨k, hk, h2⟩ := hy
  have h := page_neq w l k hl hk
  unfold Oper.wp execOp
  rw [h1, h2, pvEq_agg]
  simp only [Sem.run_bind, Sem.run_pure, Result.andThen_ok, h1, h2, run_guardN, h]
  rfl
attribute [local go_sem ↓] ldw_pg stw_pg alw_pg bdw_pg0 bdw_pg1 eqw_pg new_pg
attribute [local go_sem] isPgV_ptr pgAtV_ptr thereV_ptr setV_ptr cellsV_agg pvEq_agg
theorem range_below_of {w w' : World} {N : Nat} {l : PgL} (h : w.rangeAt N 0 (cellsB l)) (hb : w'.heap[N]? = w.heap[N]?) : w'.rangeAt N 0 (cellsB l) := fun j v hv => by
  rw [World.cell?_of_block (w := w) hb]
  exact h j v hv
set_option maxRecDepth 10000 in
set_option maxHeartbeats 1000000 in
theorem awake_true (w : World) (hg : EtLaid w) : Calls Tryd.prog 8 #[] w fun e w' => e = .returned (.bool true) ∧ Below w.heap.size w w' := by
  have HG := Lib.hid hg
  have hBt : 0 < w.heap.size := hg.lt
  have HBT := Lib.hid hBt
  clear hg hBt
  go_enter Tryd.func8, Tryd.ntmps8
  go_wp2_with fail
  refine (ses_new (W := w) (B := w.heap.size) 4 (by decide) (by decide) (Below.refl _ _) (Nat.le_refl _) HG.out).mono ?_
  rintro e w1 ⟨b, F1, rfl, hs1, _, _⟩
  have HS1 := Lib.hid hs1
  clear hs1
  have e1 : (DskV.fresh 4).refuse 0 = 0 := rfl
  have e2 : ((DskV.fresh 4).wrote 0 onePg).seen 0 = onePg := rfl
  have e3 : ((DskV.fresh 4).wrote 0 onePg).why 0 = 0 := rfl
  have e4 : (((DskV.fresh 4).wrote 0 onePg).crash 0).why 0 = 11 := rfl
  have e5 : (((DskV.fresh 4).wrote 0 onePg).crash 0).seen 0 = zpg := rfl
  have e6 : ({ ((DskV.fresh 4).wrote 0 onePg).crash 0 with down := false } : DskV).why 0 = 0 := rfl
  have e7 : ({ ((DskV.fresh 4).wrote 0 onePg).crash 0 with down := false } : DskV).seen 0 = zpg := by decide
  have E1 := Lib.hid e1
  have E2 := Lib.hid e2
  have E3 := Lib.hid e3
  have E4 := Lib.hid e4
  have E5 := Lib.hid e5
  have E6 := Lib.hid e6
  have E7 := Lib.hid e7
  clear e1 e2 e3 e4 e5 e6 e7
  go_wp2_with fail
  refine (ses_write HS1.out HBT.out 0 onePg onePg_len (by decide)).mono ?_
  rintro e w2 ⟨rfl, F2, hs2, _⟩
  rw [E1.out]
  have HS2 := Lib.hid hs2
  clear hs2 HS1
  go_wp2_with fail
  refine (ses_read HS2.out 0).mono ?_
  rintro e w3 ⟨rfl, hs3, _⟩
  rw [E2.out, E3.out]
  have HS3 := Lib.hid hs3
  clear hs3 HS2
  have q1 := isPv_agg onePg_len
  have q2 := there_zp w3 37
  have q3 := set_zp (w := w3) (N := w3.heap.size) rfl (t := 37) onePg_len
  go_wp2_with fail
  have hx4 := HS3.out.box (.cells (cellsB onePg).toArray 37)
  have hr4 := range_cells w3 w3.heap.size rfl (cellsB onePg) 37
  refine (ses_crash hx4.1 HBT.out 0 (by decide) (by decide)).mono ?_
  rintro e w4 ⟨rfl, F4, hs4, hd4⟩
  have hk4 := hd4.block hx4.2.2 hx4.2.1
  have HS4 := Lib.hid hs4
  have HR4 := Lib.hid (range_below_of hr4 hk4.1)
  have HN4 := Lib.hid hk4.2
  generalize w3.heap.size = N1 at *
  clear hx4 hr4 hs4 hd4 hk4 q2 q3 HS3
  go_wp2_with fail
  refine (ses_read HS4.out 0).mono ?_
  rintro e w5 ⟨rfl, hs5, hb5⟩
  rw [E4.out, E5.out]
  have HS5 := Lib.hid hs5
  have HR5 := Lib.hid (rangeAt_below HR4.out hb5 HN4.out.2)
  have HN5 : Hid (¬ F4 N1 ∧ N1 < w5.heap.size) := ⟨HN4.out.1, Nat.lt_of_lt_of_le HN4.out.2 hb5.size⟩
  clear hs5 hb5 HS4 HR4 HN4
  have q1 := isPv_agg zpg_len
  have q2 := there_zp w5 37
  have q3 := set_zp (w := w5) (N := w5.heap.size) rfl (t := 37) zpg_len
  go_wp2_with fail
  have hx6 := HS5.out.box (.cells (cellsB zpg).toArray 37)
  have hr6 := rangeAt_below HR5.out ((Below.refl w5.heap.size w5).alloc (Nat.le_refl _) (.cells (cellsB zpg).toArray 37)) HN5.out.2
  refine (ses_up hx6.1 HBT.out).mono ?_
  rintro e w6 ⟨rfl, hs6, hd6⟩
  have hk6 := hd6.block (k := N1) (by have := HN5.out.2; simp; omega) HN5.out.1
  have HS6 := Lib.hid hs6
  have HR6 := Lib.hid (range_below_of hr6 hk6.1)
  have HN6 := Lib.hid hk6.2
  generalize w5.heap.size = N2 at *
  clear hx6 hr6 hs6 hd6 hk6 q2 q3 HS5 HR5 HN5
  go_wp2_with fail
  refine (ses_read HS6.out 0).mono ?_
  rintro e w7 ⟨rfl, hs7, hb7⟩
  rw [E6.out, E7.out]
  have HS7 := Lib.hid hs7
  have HR7 := Lib.hid (rangeAt_below HR6.out hb7 HN6.out.2)
  have HN7 : Hid (¬ F4 N1 ∧ N1 < w7.heap.size) := ⟨HN6.out.1, Nat.lt_of_lt_of_le HN6.out.2 hb7.size⟩
  clear hs7 hb7 HS6 HR6 HN6
  have q2 := there_zp w7 37
  have q3 := set_zp (w := w7) (N := w7.heap.size) rfl (t := 37) zpg_len
  have hb8 : Below w7.heap.size w7 (w7.alloc (.cells (cellsB zpg).toArray 37)) := (Below.refl _ _).alloc (Nat.le_refl _) _
  have HB8 := Lib.hid hb8
  have HS8 := Lib.hid (HS7.out.keep hb8)
  have HR8 := Lib.hid (rangeAt_below HR7.out hb8 HN7.out.2)
  have HQ8 := Lib.hid (range_cells w7 w7.heap.size rfl (cellsB zpg) 37)
  have HN8 : Hid (N1 < (w7.alloc (.cells (cellsB zpg).toArray 37)).heap.size ∧ w7.heap.size < (w7.alloc (.cells (cellsB zpg).toArray 37)).heap.size) := ⟨by have := HN7.out.2; simp; omega, by simp⟩
  clear hb8 HS7 HR7 HN7 HB8
  go_wp2_with fail
  generalize (w7.alloc (.cells (cellsB zpg).toArray 37)) = w8 at *
  refine (ses_code HS8.out 0).mono ?_
  rintro e w9 ⟨rfl, hs9, hb9⟩
  have HS9 := Lib.hid hs9
  have HR9 := Lib.hid (rangeAt_below HR8.out hb9 HN8.out.1)
  have HQ9 := Lib.hid (rangeAt_below HQ8.out hb9 HN8.out.2)
  have HN9 : Hid (N1 < w9.heap.size ∧ w7.heap.size < w9.heap.size) := ⟨Nat.lt_of_lt_of_le HN8.out.1 hb9.size, Nat.lt_of_lt_of_le HN8.out.2 hb9.size⟩
  clear hs9 hb9 HS8 HR8 HQ8 HN8
  go_wp2_with fail
  refine (ses_code HS9.out 0).mono ?_
  rintro e w10 ⟨rfl, hs10, hb10⟩
  have HS10 := Lib.hid hs10
  have HR10 := Lib.hid (rangeAt_below HR9.out hb10 HN9.out.1)
  have HQ10 := Lib.hid (rangeAt_below HQ9.out hb10 HN9.out.2)
  have HN10 : Hid (N1 < w10.heap.size ∧ w7.heap.size < w10.heap.size) := ⟨Nat.lt_of_lt_of_le HN9.out.1 hb10.size, Nat.lt_of_lt_of_le HN9.out.2 hb10.size⟩
  clear hs10 hb10 HS9 HR9 HQ9 HN9
  go_wp2_with fail
  refine (ses_code HS10.out 0).mono ?_
  rintro e w11 ⟨rfl, hs11, hb11⟩
  have HS11 := Lib.hid hs11
  have HR11 := Lib.hid (rangeAt_below HR10.out hb11 HN10.out.1)
  have HQ11 := Lib.hid (rangeAt_below HQ10.out hb11 HN10.out.2)
  have HN11 : Hid (N1 < w11.heap.size ∧ w7.heap.size < w11.heap.size) := ⟨Nat.lt_of_lt_of_le HN10.out.1 hb11.size, Nat.lt_of_lt_of_le HN10.out.2 hb11.size⟩
  clear hs11 hb11 HS10 HR10 HQ10 HN10
  go_wp2_with fail
  refine (ses_code HS11.out 11).mono ?_
  rintro e w12 ⟨rfl, hs12, hb12⟩
  have HS12 := Lib.hid hs12
  have HR12 := Lib.hid (rangeAt_below HR11.out hb12 HN11.out.1)
  have HQ12 := Lib.hid (rangeAt_below HQ11.out hb12 HN11.out.2)
  have HN12 : Hid (N1 < w12.heap.size ∧ w7.heap.size < w12.heap.size) := ⟨Nat.lt_of_lt_of_le HN11.out.1 hb12.size, Nat.lt_of_lt_of_le HN11.out.2 hb12.size⟩
  clear hs12 hb12 HS11 HR11 HQ11 HN11
  go_wp2_with fail
  refine (ses_code HS12.out 0).mono ?_
  rintro e w13 ⟨rfl, hs13, hb13⟩
  have HS13 := Lib.hid hs13
  have HR13 := Lib.hid (rangeAt_below HR12.out hb13 HN12.out.1)
  have HQ13 := Lib.hid (rangeAt_below HQ12.out hb13 HN12.out.2)
  have HN13 : Hid (N1 < w13.heap.size ∧ w7.heap.size < w13.heap.size) := ⟨Nat.lt_of_lt_of_le HN12.out.1 hb13.size, Nat.lt_of_lt_of_le HN12.out.2 hb13.size⟩
  clear hs13 hb13 HS12 HR12 HQ12 HN12
  have p1 := isPg HR13.out onePg_len
  have p2 := pgAt_eq HR13.out onePg_len
  have p3 := isPg HQ13.out zpg_len
  have p4 := pgAt_eq HQ13.out zpg_len
  have p5 := isPv_agg onePg_len
  go_wp2
  go_ret
  exact ⟨by simp, HS13.out.below⟩
end Go.Proofs.YtgjakhfmjnpkcaaDoor
