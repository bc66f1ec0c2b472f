/-
  Contracts of the statements' own Few, Of and Do of layer 11. Conditions: package tree answers as Tree11 says; as each says.
-/
import Derived.Test.YtgpipljhpkhffaaGreatDoorOpsOf
import Derived.Test.YtgpipljhpkhffaaGreatDoorS11Awake
import Derived.IntWalk
import Derived.Lib.Hide
import Derived.BigQuiet
namespace Go.Proofs.YtgpipljhpkhffaaGreatDoor
open Go.RowKit

/-- An op in memory. -/
def OpAt (w : World) (b : Nat) (o : Op11) : Prop := w.heap[b]? = some (.cells #[.int .i64 o.1, .string o.2.1, .string o.2.2.1, .int .i64 o.2.2.2.1, .string o.2.2.2.2] 29 (0, 0))
theorem opAt_new (w : World) (o : Op11) : OpAt (w.alloc (.cells #[.int .i64 o.1, .string o.2.1, .string o.2.2.1, .int .i64 o.2.2.2.1, .string o.2.2.2.2] 29)) w.heap.size o := heap_alloc_new _ _
theorem opCell {w : World} {b : Nat} {o : Op11} (h : OpAt w b o) {j : Nat} {v : Value} (hj : (#[Value.int .i64 o.1, .string o.2.1, .string o.2.2.1, .int .i64 o.2.2.2.1, .string o.2.2.2.2] : Array Value)[j]? = some v) : w.cell? ⟨b, j, none⟩ = some v ∧ w.frozen? ⟨b, j, none⟩ = false := by
  unfold OpAt at h
  simp [World.cell?, World.frozen?, h, hj]
theorem OpAt.range {w : World} {b : Nat} {o : Op11} (h : OpAt w b o) : w.rangeAt b 0 (opc o) := fun j v hv => by
  rw [Nat.zero_add]
  exact (opCell h (by simpa using hv)).1
theorem opSize : (Tryz.prog.info? 29).map (·.size) = some 5 := by kernel_rfl
theorem lv_op {w : World} {b : Nat} {o : Op11} (h : OpAt w b o) : (loadVar 29 ⟨b, 0, none⟩).run Tryz.prog w = .ok (opV o) w :=
  run_loadVar_mid w b 0 29 _ _ h.range Tryz.underlying29 rfl (by rw [opSize]; rfl)
theorem results_cellO {fn : Func} {p : Tmp} {ty : TypeId} (h : fn.results = #[.cell p ty]) (tmps : Array Value) (P : Program) (w : World) :
    (results fn tmps).run P w = ((asAddr (tmps.getD p undef)).run P w).andThen fun a w₁ => (loadVar ty a).run P w₁ := by
  simp only [results, h]
  simp [Sem.run_bind, Result.andThen]
theorem bits_small (x : Int) : 0 ≤ bits .and .i64 x 1023 ∧ bits .and .i64 x 1023 ≤ 1023 := by
  have h : (BitVec.ofInt 64 x &&& BitVec.ofInt 64 1023).toNat ≤ 1023 := by
    rw [BitVec.toNat_and]
    exact Nat.le_trans Nat.and_le_right (by decide)
  have e : bits .and .i64 x 1023 = IntKind.i64.wrap (((BitVec.ofInt 64 x &&& BitVec.ofInt 64 1023).toNat : Nat) : Int) := rfl
  rw [e, IntWalk.i64_in _ (by omega)]
  omega
/-- Of a size that is looked at. -/
def FewO (o : Op11) : Prop := o.2.1.size ≤ 100 ∧ o.2.2.1.size ≤ 100 ∧ o.2.2.2.2.size ≤ 600
instance (o : Op11) : Decidable (FewO o) := inferInstanceAs (Decidable (_ ∧ _))
set_option maxRecDepth 10000 in
theorem few11 (o : Op11) (w : World) : Calls Tryz.prog 7 #[opV o] w fun e w' => e = .returned (.int .i64 (if FewO o then 1 else 0)) ∧ Below w.heap.size w w' := by
  obtain ⟨R, hR⟩ : ∃ R : Int, (if FewO o then 1 else 0) = R := ⟨_, rfl⟩
  rw [hR]
  have HR := Lib.hid hR
  clear hR
  obtain ⟨d, p, q, n, s⟩ := o
  by_cases h1 : (100 : Int) < (p.size : Int)
  · have HV := Lib.hid (show R = 0 by rw [← HR.out, if_neg fun h => by have := h.1; simp only at this; omega])
    go_enter Tryz.func7, Tryz.ntmps7
    go_wp2
    go_ret
    exact ⟨by rw [HV.out]; rfl, (Below.refl _ _).alloc (Nat.le_refl _) _⟩
  · by_cases h2 : (100 : Int) < (q.size : Int)
    · have HV := Lib.hid (show R = 0 by rw [← HR.out, if_neg fun h => by have := h.2.1; simp only at this; omega])
      go_enter Tryz.func7, Tryz.ntmps7
      go_wp2
      go_ret
      exact ⟨by rw [HV.out]; rfl, (Below.refl _ _).alloc (Nat.le_refl _) _⟩
    · by_cases h3 : (600 : Int) < (s.size : Int)
      · have HV := Lib.hid (show R = 0 by rw [← HR.out, if_neg fun h => by have := h.2.2; simp only at this; omega])
        go_enter Tryz.func7, Tryz.ntmps7
        go_wp2
        go_ret
        exact ⟨by rw [HV.out]; rfl, (Below.refl _ _).alloc (Nat.le_refl _) _⟩
      · have HV := Lib.hid (show R = 1 by rw [← HR.out, if_pos ⟨by show p.size ≤ 100; omega, by show q.size ≤ 100; omega, by show s.size ≤ 600; omega⟩])
        go_enter Tryz.func7, Tryz.ntmps7
        go_wp2
        go_ret
        exact ⟨by rw [HV.out]; rfl, (Below.refl _ _).alloc (Nat.le_refl _) _⟩
set_option maxRecDepth 10000 in
set_option maxHeartbeats 4000000 in
theorem do11 (L : Tree11) (t : List Ent) (a : Option Addr) (cap : Nat) (o : Op11) (w : World) (hg : EtLaid w) (h : Ents w a cap t) (ht : TreeL t) (hn : t.length ≤ 900) (hf : FewO o) (h0 : 0 ≤ o.1 ∧ o.1 ≤ 6) (hN : -9223372036854775808 ≤ o.2.2.2.1 ∧ o.2.2.2.1 ≤ 9223372036854775807) :
    Calls Tryz.prog 8 #[.slice a t.length cap, opV o] w (Ans11 (doV t o) w) := by
  obtain ⟨d, p, q, n, s⟩ := o
  have HS0 := Lib.hid (st_self hg)
  have HP := Lib.hid (show p.size ≤ 100000 by have : p.size ≤ 100 := hf.1; omega)
  have HQ := Lib.hid (show q.size ≤ 100000 by have : q.size ≤ 100 := hf.2.1; omega)
  have HSZ := Lib.hid (show s.size ≤ 100000 by have : s.size ≤ 600 := hf.2.2; omega)
  have HT := Lib.hid ht
  have HL := Lib.hid hn
  have HN := Lib.hid hN
  obtain ⟨W, hW⟩ : ∃ W, w.alloc (.cells #[.int .i64 d, .string p, .string q, .int .i64 n, .string s] 29) = W := ⟨_, rfl⟩
  obtain ⟨M, hM⟩ : ∃ M, w.heap.size = M := ⟨_, rfl⟩
  have hb : Below w.heap.size w W := by rw [← hW]; exact (Below.refl _ _).alloc (Nat.le_refl _) _
  have ho : OpAt W M (d, p, q, n, s) := by rw [← hW, ← hM]; exact opAt_new w (d, p, q, n, s)
  have c0 := (opCell ho (j := 0) rfl).1
  have c1 := (opCell ho (j := 1) rfl).1
  have c2 := (opCell ho (j := 2) rfl).1
  have c3 := (opCell ho (j := 3) rfl).1
  have c4 := (opCell ho (j := 4) rfl).1
  have HB := Lib.hid hb
  have HS1 := Lib.hid (HS0.out.next hb)
  have HE := Lib.hid (RowN.below h hb)
  have ways : d = 0 ∨ d = 1 ∨ d = 2 ∨ d = 3 ∨ d = 4 ∨ d = 5 ∨ d = 6 := by
    have h1 : 0 ≤ d := h0.1
    have h2 : d ≤ 6 := h0.2
    omega
  clear hg h ht hn hf h0 hN hb ho
  simp only at c0 c1 c2 c3 c4
  rcases ways with rfl | rfl | rfl | rfl | rfl | rfl | rfl
  · have HC := Lib.hid (L.create t a cap p W HS1.out.et HE.out HT.out HL.out HP.out)
    have HV := Lib.hid (show doV t (0, p, q, n, s) = mkV t p 1 from rfl)
    go_enter Tryz.func8, Tryz.ntmps8
    go_wp2_with fail
    refine HC.out.mono ?_
    rintro e w1 ⟨a1, cp1, er1, rfl, h1, e1, hb⟩
    have HB1 := Lib.hid (HB.out.trans (hb.mono HB.out.size))
    have HE1 := Lib.hid h1
    have HR1 := Lib.hid e1
    clear hb h1 e1
    go_wp2
    go_ret2
    exact ⟨a1, cp1, er1, by rw [HV.out]; rfl, by rw [HV.out]; exact HE1.out, by rw [HV.out]; exact HR1.out, HB1.out⟩
  · have HC := Lib.hid (L.mkdir t a cap p W HS1.out.et HE.out HT.out HL.out HP.out)
    have HV := Lib.hid (show doV t (1, p, q, n, s) = mkV t p 2 from rfl)
    go_enter Tryz.func8, Tryz.ntmps8
    go_wp2_with fail
    refine HC.out.mono ?_
    rintro e w1 ⟨a1, cp1, er1, rfl, h1, e1, hb⟩
    have HB1 := Lib.hid (HB.out.trans (hb.mono HB.out.size))
    have HE1 := Lib.hid h1
    have HR1 := Lib.hid e1
    clear hb h1 e1
    go_wp2
    go_ret2
    exact ⟨a1, cp1, er1, by rw [HV.out]; rfl, by rw [HV.out]; exact HE1.out, by rw [HV.out]; exact HR1.out, HB1.out⟩
  · have HC := Lib.hid (L.write t a cap p n s W HS1.out.et HE.out HT.out HL.out HP.out HN.out HSZ.out)
    have HV := Lib.hid (show doV t (2, p, q, n, s) = wrV t p n s from rfl)
    go_enter Tryz.func8, Tryz.ntmps8
    go_wp2_with fail
    refine HC.out.mono ?_
    rintro e w1 ⟨a1, cp1, er1, rfl, h1, e1, hb⟩
    have HB1 := Lib.hid (HB.out.trans (hb.mono HB.out.size))
    have HE1 := Lib.hid h1
    have HR1 := Lib.hid e1
    clear hb h1 e1
    go_wp2
    go_ret2
    exact ⟨a1, cp1, er1, by rw [HV.out]; rfl, by rw [HV.out]; exact HE1.out, by rw [HV.out]; exact HR1.out, HB1.out⟩
  · have HC := Lib.hid (L.cut t a cap p n W HS1.out.et HE.out HT.out HL.out HP.out HN.out)
    have HV := Lib.hid (show doV t (3, p, q, n, s) = ctV t p n from rfl)
    go_enter Tryz.func8, Tryz.ntmps8
    go_wp2_with fail
    refine HC.out.mono ?_
    rintro e w1 ⟨a1, cp1, er1, rfl, h1, e1, hb⟩
    have HB1 := Lib.hid (HB.out.trans (hb.mono HB.out.size))
    have HE1 := Lib.hid h1
    have HR1 := Lib.hid e1
    clear hb h1 e1
    go_wp2
    go_ret2
    exact ⟨a1, cp1, er1, by rw [HV.out]; rfl, by rw [HV.out]; exact HE1.out, by rw [HV.out]; exact HR1.out, HB1.out⟩
  · have HC := Lib.hid (L.unlink t a cap p W HS1.out.et HE.out HT.out HL.out HP.out)
    have HV := Lib.hid (show doV t (4, p, q, n, s) = ulV t p.data.toList from rfl)
    go_enter Tryz.func8, Tryz.ntmps8
    go_wp2_with fail
    refine HC.out.mono ?_
    rintro e w1 ⟨a1, cp1, er1, rfl, h1, e1, hb⟩
    have HB1 := Lib.hid (HB.out.trans (hb.mono HB.out.size))
    have HE1 := Lib.hid h1
    have HR1 := Lib.hid e1
    clear hb h1 e1
    go_wp2
    go_ret2
    exact ⟨a1, cp1, er1, by rw [HV.out]; rfl, by rw [HV.out]; exact HE1.out, by rw [HV.out]; exact HR1.out, HB1.out⟩
  · have HC := Lib.hid (L.rmdir t a cap p W HS1.out.et HE.out HT.out HL.out HP.out)
    have HV := Lib.hid (show doV t (5, p, q, n, s) = rmV t p.data.toList from rfl)
    go_enter Tryz.func8, Tryz.ntmps8
    go_wp2_with fail
    refine HC.out.mono ?_
    rintro e w1 ⟨a1, cp1, er1, rfl, h1, e1, hb⟩
    have HB1 := Lib.hid (HB.out.trans (hb.mono HB.out.size))
    have HE1 := Lib.hid h1
    have HR1 := Lib.hid e1
    clear hb h1 e1
    go_wp2
    go_ret2
    exact ⟨a1, cp1, er1, by rw [HV.out]; rfl, by rw [HV.out]; exact HE1.out, by rw [HV.out]; exact HR1.out, HB1.out⟩
  · have HC := Lib.hid (L.rename t a cap p q W HS1.out.et HE.out HT.out HL.out HP.out HQ.out)
    have HV := Lib.hid (show doV t (6, p, q, n, s) = rnV t p q from rfl)
    go_enter Tryz.func8, Tryz.ntmps8
    go_wp2_with fail
    refine HC.out.mono ?_
    rintro e w1 ⟨a1, cp1, er1, rfl, h1, e1, hb⟩
    have HB1 := Lib.hid (HB.out.trans (hb.mono HB.out.size))
    have HE1 := Lib.hid h1
    have HR1 := Lib.hid e1
    clear hb h1 e1
    go_wp2
    go_ret2
    exact ⟨a1, cp1, er1, by rw [HV.out]; rfl, by rw [HV.out]; exact HE1.out, by rw [HV.out]; exact HR1.out, HB1.out⟩
set_option maxRecDepth 10000 in
set_option maxHeartbeats 2000000 in
theorem of11 (o : Op11) (h : opOK o) (w : World) : Calls Tryz.prog 9 #[opV o] w fun e w' => ∃ r : Int, (0 ≤ r ∧ r ≤ 6) ∧ e = .returned (opV (r, o.2)) ∧ Below w.heap.size w w' := by
  obtain ⟨d, p, q, n, s⟩ := o
  obtain ⟨W, hW⟩ : ∃ W, w.alloc (.cells #[.int .i64 d, .string p, .string q, .int .i64 n, .string s] 29) = W := ⟨_, rfl⟩
  obtain ⟨M, hM⟩ : ∃ M, w.heap.size = M := ⟨_, rfl⟩
  obtain ⟨V, hV⟩ : ∃ V, W.alloc (.cells #[.int .i64 0, .string ⟨#[]⟩, .string ⟨#[]⟩, .int .i64 0, .string ⟨#[]⟩] 29) = V := ⟨_, rfl⟩
  obtain ⟨O, hO⟩ : ∃ O, W.heap.size = O := ⟨_, rfl⟩
  have hb : Below w.heap.size w W := by rw [← hW]; exact (Below.refl _ _).alloc (Nat.le_refl _) _
  have hb1 : Below W.heap.size W V := by rw [← hV]; exact (Below.refl _ _).alloc (Nat.le_refl _) _
  have ho : OpAt W M (d, p, q, n, s) := by rw [← hW, ← hM]; exact opAt_new w (d, p, q, n, s)
  have hlt : M < W.heap.size := by rw [← hW, ← hM]; simp
  have ho1 : OpAt V M (d, p, q, n, s) := (hb1.block M hlt).trans ho
  have ho2 : OpAt V O (0, ⟨#[]⟩, ⟨#[]⟩, 0, ⟨#[]⟩) := by rw [← hV, ← hO]; exact opAt_new W (0, ⟨#[]⟩, ⟨#[]⟩, 0, ⟨#[]⟩)
  have c0 := (opCell ho1 (j := 0) rfl).1
  have c1 := (opCell ho1 (j := 1) rfl).1
  have c2 := (opCell ho1 (j := 2) rfl).1
  have c3 := (opCell ho1 (j := 3) rfl).1
  have c4 := (opCell ho1 (j := 4) rfl).1
  have f0 := (opCell ho1 (j := 0) rfl).2
  have e0 := opCell ho2 (j := 0) rfl
  have e1 := opCell ho2 (j := 1) rfl
  have e2 := opCell ho2 (j := 2) rfl
  have e3 := opCell ho2 (j := 3) rfl
  have e4 := opCell ho2 (j := 4) rfl
  have hne : ¬ O = M := by omega
  have hne2 : ¬ M = O := by omega
  have HBV := Lib.hid (hb.trans (hb1.mono hb.size))
  have HNE := Lib.hid (show w.heap.size ≤ M ∧ w.heap.size ≤ O by have := hb.size; omega)
  simp only at c0 c1 c2 c3 c4
  obtain ⟨e0, g0⟩ := e0
  obtain ⟨e1, g1⟩ := e1
  obtain ⟨e2, g2⟩ := e2
  obtain ⟨e3, g3⟩ := e3
  obtain ⟨e4, g4⟩ := e4
  clear hb hb1 ho hlt h
  have hV1 : (V.setCell ⟨M, 0, none⟩ (.int .i64 ((bits .and .i64 d 1023).tmod 7))).heap[O]? = some (.cells #[.int .i64 0, .string ⟨#[]⟩, .string ⟨#[]⟩, .int .i64 0, .string ⟨#[]⟩] 29 (0, 0)) := (Below.heap_setCell _ _ _ _ hne).trans ho2
  have hfin := set_of8 (set_of8 (set_of8 (set_of8 (set_of8 hV1 0 (.int .i64 ((bits .and .i64 d 1023).tmod 7))) 1 (.string p)) 2 (.string q)) 3 (.int .i64 n)) 4 (.string s)
  have HLD := Lib.hid (lv_op (o := ((bits .and .i64 d 1023).tmod 7, p, q, n, s)) (by exact hfin))
  have HBF := Lib.hid ((((((HBV.out.setCell (p := ⟨M, 0, none⟩) HNE.out.1 (.int .i64 ((bits .and .i64 d 1023).tmod 7))).setCell (p := ⟨O, 0, none⟩) HNE.out.2 (.int .i64 ((bits .and .i64 d 1023).tmod 7))).setCell (p := ⟨O, 1, none⟩) HNE.out.2 (.string p)).setCell (p := ⟨O, 2, none⟩) HNE.out.2 (.string q)).setCell (p := ⟨O, 3, none⟩) HNE.out.2 (.int .i64 n)).setCell (p := ⟨O, 4, none⟩) HNE.out.2 (.string s))
  have HRB := Lib.hid (bits_small d)
  clear hV1 hfin ho1 ho2
  rw [hM] at HBF ⊢
  go_enter Tryz.func9, Tryz.ntmps9
  go_wp2
  refine bodyPost_ret (v := opV ((bits .and .i64 d 1023).tmod 7, p, q, n, s)) ?_ rfl ⟨_, ⟨?_, ?_⟩, rfl, HBF.out⟩
  · rw [results_cellO rfl]
    simp [asAddr, Result.andThen, HLD.out]
  · exact Int.tmod_nonneg _ HRB.out.1
  · have := Int.tmod_lt_of_pos (bits .and .i64 d 1023) (show (0 : Int) < 7 by decide)
    omega
end Go.Proofs.YtgpipljhpkhffaaGreatDoor
