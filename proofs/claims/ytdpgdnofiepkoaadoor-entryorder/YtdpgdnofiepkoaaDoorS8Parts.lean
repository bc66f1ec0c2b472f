/-
  Contracts of package entry's parts: a kind, a path and data, right or not, if they stand there; else ErrForm; of nil. Condition: the bytes fit in memory.
-/
import Derived.Test.YtdpgdnofiepkoaaDoorS8Entry2
namespace Go.Proofs.YtdpgdnofiepkoaaDoor
open Go.RowKit

theorem results_cell8 {fn : Func} {p q : Tmp} {ty : TypeId} (h : fn.results = #[.cell p ty, .tmp q]) (tmps : Array Value) (P : Program) (w : World) :
    (results fn tmps).run P w = ((asAddr (tmps.getD p undef)).run P w).andThen fun a w₁ => ((loadVar ty a).run P w₁).andThen fun v w₂ => .ok (.tuple #[v, tmps.getD q undef]) w₂ := by
  simp only [results, h]
  simp [Sem.run_bind, Result.andThen]
/-- All blocks that were there are as they were, but p's. -/
def Kp (p : Nat) (w w' : World) : Prop := w.heap.size ≤ w'.heap.size ∧ ∀ q, q < w.heap.size → q ≠ p → w'.heap[q]? = w.heap[q]?
theorem Kp.trans {p : Nat} {w w' w'' : World} (h : Kp p w w') (g : Kp p w' w'') : Kp p w w'' := ⟨Nat.le_trans h.1 g.1, fun q hq hn => (g.2 q (Nat.lt_of_lt_of_le hq h.1) hn).trans (h.2 q hq hn)⟩
theorem kp_below {w w' : World} (p : Nat) (h : Below w.heap.size w w') : Kp p w w' := ⟨h.size, fun q hq _ => h.block q hq⟩
theorem kp_next {w w' : World} {p : Nat} {v : Value} (hb : Below w.heap.size (w.setCell ⟨p, 0, none⟩ v) w') : Kp p w w' := ⟨by have := hb.size; simpa [World.setCell] using this, fun q hq hn => (hb.block q hq).trans (Below.heap_setCell _ _ _ _ hn)⟩
theorem kp_en3 {w w' : World} {p b : Nat} (h : Kp p w w') (hb : w.heap.size ≤ b) (x : ByteArray) (k : Int) (y : ByteArray) : Kp p w (enSet w' b x k y) := by
  refine ⟨by simpa [enSet, World.setCell] using h.1, fun q hq hn => ?_⟩
  unfold enSet
  rw [Below.heap_setCell _ _ _ _ (show q ≠ b by omega), Below.heap_setCell _ _ _ _ (show q ≠ b by omega), Below.heap_setCell _ _ _ _ (show q ≠ b by omega)]
  exact h.2 q hq hn
/-- A kind of one byte, a text and a text begin the bytes. -/
def Pts8 (l : List UInt8) (p : ByteArray) (k : Nat) (d : ByteArray) (rest : List UInt8) : Prop := l = (layE p k d).data.toList ++ rest ∧ k ≤ 127
theorem pts8_list {l : List UInt8} {p d : ByteArray} {k : Nat} {rest : List UInt8} (h : Pts8 l p k d rest) : l = dg k ++ (dg p.size ++ (p.data.toList ++ (dg d.size ++ (d.data.toList ++ rest)))) ∧ k ≤ 127 := by
  obtain ⟨h1, h2⟩ := h
  refine ⟨?_, h2⟩
  rw [h1, layE_list]
  simp only [List.append_assoc]
theorem pts8_len {l : List UInt8} {p d : ByteArray} {k : Nat} {rest : List UInt8} (h : Pts8 l p k d rest) : p.size ≤ l.length ∧ d.size ≤ l.length := by
  have h2 := congrArg List.length (pts8_list h).1
  simp only [List.length_append, ← Lib.size_eq] at h2
  omega
theorem next8 {w w' : World} {p : Nat} {v : Value} (hp : p < w.heap.size) (hb : Below w.heap.size (w.setCell ⟨p, 0, none⟩ v) w') : Below p w w' := below_next (Below.refl p w) (Nat.le_refl p) (Nat.le_of_lt hp) hb
set_option maxRecDepth 10000 in
theorem parts8_nil (w : World) : Calls Tryd.prog 27 #[.pointer none] w fun e w' => e = .returned (.tuple #[entV ⟨#[]⟩ 0 ⟨#[]⟩, .iface 43 (.int .i64 1)]) ∧ Below w.heap.size w w' := by
  have hb0 : Below w.heap.size w (w.alloc (.cells #[.string ⟨#[]⟩, .int .i64 0, .string ⟨#[]⟩] 23)) := (Below.refl _ _).alloc (Nat.le_refl _) _
  have HB0 := Lib.hid hb0
  have HR0 := Lib.hid (enAt_new w ⟨#[]⟩ 0 ⟨#[]⟩)
  clear hb0
  go_enter Tryd.func27, Tryd.ntmps27
  go_wp2_with fail
  refine (rNum_nil _ _).mono ?_
  rintro e w1 ⟨rfl, hb1⟩
  have HB1 := Lib.hid (HB0.out.trans (hb1.mono HB0.out.size))
  have r1 := HR0.out.below hb1
  have c0 := r1.c0
  have c1 := r1.c1
  have c2 := r1.c2
  have f0 := r1.f0
  have f1 := r1.f1
  have f2 := r1.f2
  have HR1 := Lib.hid r1
  clear hb1 r1
  go_wp2
  have hld := lv_en (HR1.out.set ⟨#[]⟩ 0 ⟨#[]⟩)
  refine bodyPost_ret (v := .tuple #[entV ⟨#[]⟩ 0 ⟨#[]⟩, .iface 43 (.int .i64 1)]) ?_ rfl ⟨rfl, below_en3 HB1.out (Nat.le_refl _) _ _ _⟩
  rw [results_cell8 rfl]
  simp [asAddr, Result.andThen, hld]
theorem Rd.en3 {w : World} {q b : Nat} {s : ByteArray} (h : Rd w q s) (hne : ¬ q = b) (p : ByteArray) (k : Int) (d : ByteArray) : Rd (enSet w b p k d) q s := by
  refine ⟨by simpa [enSet, World.setCell] using h.1, ?_, ?_⟩
  · rw [World.cell?_setCell_other _ _ _ _ (fun e => hne (congrArg Addr.block e).symm), World.cell?_setCell_other _ _ _ _ (fun e => hne (congrArg Addr.block e).symm), World.cell?_setCell_other _ _ _ _ (fun e => hne (congrArg Addr.block e).symm)]
    exact h.2.1
  · simpa using h.2.2
set_option maxRecDepth 10000 in
set_option maxHeartbeats 2000000 in
theorem parts8 (s : ByteArray) (hz : s.size ≤ 100000) (p : Nat) (w : World) (hp : Rd w p s) :
    Calls Tryd.prog 27 #[.pointer (some ⟨p, 0, none⟩)] w fun e w' => ((∃ x k y rest, Pts8 s.data.toList x k y rest ∧ e = .returned (.tuple #[entV x (k : Int) y, .nilIface]) ∧ Rd w' p (bs rest)) ∨ ((∀ x k y rest, ¬ Pts8 s.data.toList x k y rest) ∧ e = .returned (.tuple #[entV ⟨#[]⟩ 0 ⟨#[]⟩, .iface 43 (.int .i64 13)]))) ∧ Below p w w' ∧ Kp p w w' := by
  obtain ⟨W, hW⟩ : ∃ W, w.alloc (.cells #[.string ⟨#[]⟩, .int .i64 0, .string ⟨#[]⟩] 23) = W := ⟨_, rfl⟩
  have hb0 : Below w.heap.size w W := by rw [← hW]; exact (Below.refl _ _).alloc (Nat.le_refl _) _
  have r0 : EnAt W w.heap.size ⟨#[]⟩ 0 ⟨#[]⟩ := by rw [← hW]; exact enAt_new _ _ _ _
  have HB0 := Lib.hid (hb0.mono (Nat.le_of_lt hp.1))
  have HK0 := Lib.hid (kp_below p hb0)
  have HR0 := Lib.hid r0
  have HP := Lib.hid (hp.below hb0)
  have HN := Lib.hid hp.1
  have HNW := Lib.hid (show w.heap.size < W.heap.size from r0.lt)
  rcases bad_or s 127 with hbad | ⟨k, r1, hl1, hk1, hk2⟩
  · have HNO := Lib.hid (show ∀ x k y rest, ¬ Pts8 s.data.toList x k y rest from fun x k y rest h => by
      have h2 := pts8_list h
      have h9 := pts8_len h
      rw [← Lib.size_eq] at h9
      exact hbad k _ h2.1 (by omega) (by omega))
    have H1 := Lib.hid (rNum_bad 127 s hbad (by omega) p W (hp.below hb0))
    clear hz hp hb0 r0
    go_enter Tryd.func27, Tryd.ntmps27
    go_wp2_with fail
    refine (H1.out).mono ?_
    rintro e w1 ⟨rfl, hb1⟩
    have HK1 := Lib.hid (HK0.out.trans (kp_below p hb1))
    have HB1 := Lib.hid (show Below p w w1 from HB0.out.trans (hb1.mono (Nat.le_of_lt HP.out.1)))
    have HR1 := Lib.hid (HR0.out.below hb1)
    clear hb1
    have c0 := HR1.out.c0
    have c1 := HR1.out.c1
    have c2 := HR1.out.c2
    have f0 := HR1.out.f0
    have f1 := HR1.out.f1
    have f2 := HR1.out.f2
    go_wp2
    have hld := lv_en (HR1.out.set ⟨#[]⟩ 0 ⟨#[]⟩)
    refine bodyPost_ret (v := .tuple #[entV ⟨#[]⟩ 0 ⟨#[]⟩, .iface 43 (.int .i64 13)]) ?_ rfl ⟨.inr ⟨HNO.out, rfl⟩, below_en3 HB1.out (Nat.le_of_lt HN.out) _ _ _, kp_en3 HK1.out (Nat.le_refl _) _ _ _⟩
    rw [results_cell8 rfl]
    simp [asAddr, Result.andThen, hld]
  · have hlen1 := congrArg List.length hl1
    rw [List.length_append, ← Lib.size_eq] at hlen1
    have H1 := Lib.hid (rNum_good k 127 s _ hl1 (by omega) hk1 hk2 p W (hp.below hb0))
    rcases badS_or (bs r1) 9223372036854775807 with hbad | ⟨x, r2, hl2, hx⟩
    · have HNO := Lib.hid (show ∀ x k y rest, ¬ Pts8 s.data.toList x k y rest from fun x m y rest h => by
        have h2 := pts8_list h
        have h9 := pts8_len h
        rw [← Lib.size_eq] at h9
        rw [hl1] at h2
        obtain ⟨rfl, h3⟩ := dg_cut _ _ _ _ h2.1
        exact hbad x _ (by rw [bs_list]; exact h3) (by omega))
      have H2 := Lib.hid (fun (X : World) (h : Rd X p (bs r1)) => rStr_bad 9223372036854775807 (bs r1) hbad (by rw [bs_size]; omega) p X h)
      clear hz hp hb0 r0 hl1 hk1 hk2 hlen1
      go_enter Tryd.func27, Tryd.ntmps27
      go_wp2_with fail
      refine (H1.out).mono ?_
      rintro e w1 ⟨rfl, hb1⟩
      have HB1 := Lib.hid (HB0.out.trans (next8 HP.out.1 hb1))
      have HK1 := Lib.hid (HK0.out.trans (kp_next hb1))
      have HP1 := Lib.hid (HP.out.next hb1)
      have HR1 := Lib.hid (show EnAt w1 w.heap.size ⟨#[]⟩ 0 ⟨#[]⟩ from HR0.out.of ((hb1.block _ HR0.out.lt).trans (Below.heap_setCell _ _ _ _ (by have := HN.out; simp; omega))))
      clear hb1
      go_wp2_with fail
      refine (H2.out _ HP1.out).mono ?_
      rintro e w2 ⟨rfl, hb2⟩
      have HK2 := Lib.hid (HK1.out.trans (kp_below p hb2))
      have HB2 := Lib.hid (show Below p w w2 from HB1.out.trans (hb2.mono (Nat.le_of_lt HP1.out.1)))
      have HR2 := Lib.hid (HR1.out.below hb2)
      clear hb2
      have c0 := HR2.out.c0
      have c1 := HR2.out.c1
      have c2 := HR2.out.c2
      have f0 := HR2.out.f0
      have f1 := HR2.out.f1
      have f2 := HR2.out.f2
      go_wp2
      have hld := lv_en (HR2.out.set ⟨#[]⟩ 0 ⟨#[]⟩)
      refine bodyPost_ret (v := .tuple #[entV ⟨#[]⟩ 0 ⟨#[]⟩, .iface 43 (.int .i64 13)]) ?_ rfl ⟨.inr ⟨HNO.out, rfl⟩, below_en3 HB2.out (Nat.le_of_lt HN.out) _ _ _, kp_en3 HK2.out (Nat.le_refl _) _ _ _⟩
      rw [results_cell8 rfl]
      simp [asAddr, Result.andThen, hld]
    · rw [bs_list] at hl2
      have hlen2 := congrArg List.length hl2
      rw [List.length_append, List.length_append, ← Lib.size_eq x] at hlen2
      have H2 := Lib.hid (fun (X : World) (h : Rd X p (bs r1)) => rStr_good x 9223372036854775807 (bs r1) r2 (by rw [bs_list, hl2]) (by rw [bs_size]; omega) hx p X h)
      rcases badS_or (bs r2) 9223372036854775807 with hbad | ⟨y, r3, hl3, hy⟩
      · have HNO := Lib.hid (show ∀ x k y rest, ¬ Pts8 s.data.toList x k y rest from fun x' m y rest h => by
          have h2 := pts8_list h
          have h9 := pts8_len h
          rw [← Lib.size_eq] at h9
          rw [hl1, hl2] at h2
          obtain ⟨rfl, h3⟩ := dg_cut _ _ _ _ h2.1
          obtain ⟨h4, h5⟩ := dg_cut _ _ _ _ h3
          obtain ⟨_, h7⟩ := List.append_inj h5 (by rw [← Lib.size_eq, ← Lib.size_eq]; exact h4)
          exact hbad y _ (by rw [bs_list]; exact h7) (by omega))
        have H3 := Lib.hid (fun (X : World) (h : Rd X p (bs r2)) => rStr_bad 9223372036854775807 (bs r2) hbad (by rw [bs_size]; omega) p X h)
        clear hz hp hb0 r0 hl1 hk1 hk2 hlen1 hl2 hlen2
        go_enter Tryd.func27, Tryd.ntmps27
        go_wp2_with fail
        refine (H1.out).mono ?_
        rintro e w1 ⟨rfl, hb1⟩
        have HB1 := Lib.hid (HB0.out.trans (next8 HP.out.1 hb1))
        have HK1 := Lib.hid (HK0.out.trans (kp_next hb1))
        have HP1 := Lib.hid (HP.out.next hb1)
        have HR1 := Lib.hid (show EnAt w1 w.heap.size ⟨#[]⟩ 0 ⟨#[]⟩ from HR0.out.of ((hb1.block _ HR0.out.lt).trans (Below.heap_setCell _ _ _ _ (by have := HN.out; simp; omega))))
        clear hb1
        go_wp2_with fail
        refine (H2.out _ HP1.out).mono ?_
        rintro e w2 ⟨rfl, hb2⟩
        have HB2 := Lib.hid (HB1.out.trans (next8 HP1.out.1 hb2))
        have HK2 := Lib.hid (HK1.out.trans (kp_next hb2))
        have HP2 := Lib.hid (HP1.out.next hb2)
        have HR2 := Lib.hid (show EnAt w2 w.heap.size ⟨#[]⟩ 0 ⟨#[]⟩ from HR1.out.of ((hb2.block _ HR1.out.lt).trans (Below.heap_setCell _ _ _ _ (by have := HN.out; simp; omega))))
        clear hb2
        go_wp2_with fail
        refine (H3.out _ HP2.out).mono ?_
        rintro e w3 ⟨rfl, hb3⟩
        have HK3 := Lib.hid (HK2.out.trans (kp_below p hb3))
        have HB3 := Lib.hid (show Below p w w3 from HB2.out.trans (hb3.mono (Nat.le_of_lt HP2.out.1)))
        have HR3 := Lib.hid (HR2.out.below hb3)
        clear hb3
        have c0 := HR3.out.c0
        have c1 := HR3.out.c1
        have c2 := HR3.out.c2
        have f0 := HR3.out.f0
        have f1 := HR3.out.f1
        have f2 := HR3.out.f2
        go_wp2
        have hld := lv_en (HR3.out.set ⟨#[]⟩ 0 ⟨#[]⟩)
        refine bodyPost_ret (v := .tuple #[entV ⟨#[]⟩ 0 ⟨#[]⟩, .iface 43 (.int .i64 13)]) ?_ rfl ⟨.inr ⟨HNO.out, rfl⟩, below_en3 HB3.out (Nat.le_of_lt HN.out) _ _ _, kp_en3 HK3.out (Nat.le_refl _) _ _ _⟩
        rw [results_cell8 rfl]
        simp [asAddr, Result.andThen, hld]
      · rw [bs_list] at hl3
        have hlen3 := congrArg List.length hl3
        rw [List.length_append, List.length_append, ← Lib.size_eq y] at hlen3
        have H3 := Lib.hid (fun (X : World) (h : Rd X p (bs r2)) => rStr_good y 9223372036854775807 (bs r2) r3 (by rw [bs_list, hl3]) (by rw [bs_size]; omega) hy p X h)
        have hall : s.data.toList = (layE x k y).data.toList ++ r3 := by
          rw [hl1, hl2, hl3, layE_list]
          simp only [List.append_assoc]
        have HEN := Lib.hid (show Pts8 s.data.toList x k y r3 from ⟨hall, by omega⟩)
        clear hz hp hb0 r0 hl1 hk1 hk2 hlen1 hl2 hlen2 hl3 hlen3 hall
        go_enter Tryd.func27, Tryd.ntmps27
        go_wp2_with fail
        refine (H1.out).mono ?_
        rintro e w1 ⟨rfl, hb1⟩
        have HB1 := Lib.hid (HB0.out.trans (next8 HP.out.1 hb1))
        have HK1 := Lib.hid (HK0.out.trans (kp_next hb1))
        have HP1 := Lib.hid (HP.out.next hb1)
        have HR1 := Lib.hid (show EnAt w1 w.heap.size ⟨#[]⟩ 0 ⟨#[]⟩ from HR0.out.of ((hb1.block _ HR0.out.lt).trans (Below.heap_setCell _ _ _ _ (by have := HN.out; simp; omega))))
        clear hb1
        go_wp2_with fail
        refine (H2.out _ HP1.out).mono ?_
        rintro e w2 ⟨rfl, hb2⟩
        have HB2 := Lib.hid (HB1.out.trans (next8 HP1.out.1 hb2))
        have HK2 := Lib.hid (HK1.out.trans (kp_next hb2))
        have HP2 := Lib.hid (HP1.out.next hb2)
        have HR2 := Lib.hid (show EnAt w2 w.heap.size ⟨#[]⟩ 0 ⟨#[]⟩ from HR1.out.of ((hb2.block _ HR1.out.lt).trans (Below.heap_setCell _ _ _ _ (by have := HN.out; simp; omega))))
        clear hb2
        go_wp2_with fail
        refine (H3.out _ HP2.out).mono ?_
        rintro e w3 ⟨rfl, hb3⟩
        have HB3 := Lib.hid (HB2.out.trans (next8 HP2.out.1 hb3))
        have HK3 := Lib.hid (HK2.out.trans (kp_next hb3))
        have HP3 := Lib.hid (HP2.out.next hb3)
        have HR3 := Lib.hid (show EnAt w3 w.heap.size ⟨#[]⟩ 0 ⟨#[]⟩ from HR2.out.of ((hb3.block _ HR2.out.lt).trans (Below.heap_setCell _ _ _ _ (by have := HN.out; simp; omega))))
        clear hb3
        have c0 := HR3.out.c0
        have c1 := HR3.out.c1
        have c2 := HR3.out.c2
        have f0 := HR3.out.f0
        have f1 := HR3.out.f1
        have f2 := HR3.out.f2
        go_wp2
        have hld := lv_en (HR3.out.set x (k : Int) y)
        have hne : ¬ p = w.heap.size := by have := HN.out; omega
        refine bodyPost_ret (v := .tuple #[entV x (k : Int) y, .nilIface]) ?_ rfl ⟨.inl ⟨x, k, y, r3, HEN.out, rfl, HP3.out.en3 hne _ _ _⟩, below_en3 HB3.out (Nat.le_of_lt HN.out) _ _ _, kp_en3 HK3.out (Nat.le_refl _) _ _ _⟩
        rw [results_cell8 rfl]
        simp [asAddr, Result.andThen, hld]
end Go.Proofs.YtdpgdnofiepkoaaDoor
