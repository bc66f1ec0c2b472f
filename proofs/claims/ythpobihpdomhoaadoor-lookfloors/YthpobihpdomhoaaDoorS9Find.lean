/-
  The contract of layer.Find. Conditions: the list lies in memory, has at most 1000 entries, texts of at most 100000 bytes.
-/
import Derived.Test.YthpobihpdomhoaaDoorS9Right
import Derived.Test.YthpobihpdomhoaaDoorS9FdV
import Derived.Test.YthpobihpdomhoaaDoorPc
import Derived.Test.YthpobihpdomhoaaDoorS9Place
namespace Go.Proofs.YthpobihpdomhoaaDoor
open Go.RowKit

theorem results_cell9f {fn : Func} {p q : Tmp} {ty : TypeId} (h : fn.results = #[.cell p ty, .tmp q]) (tmps : Array Value) (P : Program) (w : World) :
    (results fn tmps).run P w = ((asAddr (tmps.getD p undef)).run P w).andThen fun a w₁ => ((loadVar ty a).run P w₁).andThen fun v w₂ => .ok (.tuple #[v, tmps.getD q undef]) w₂ := by
  simp only [results, h]
  simp [Sem.run_bind, Result.andThen]
set_option maxRecDepth 10000 in
set_option maxHeartbeats 4000000 in
theorem find9 (l : List Ent) (a : Option Addr) (cap : Nat) (p : ByteArray) (w : World) (h : Ents w a cap l) (hs : Sm l) : Calls Tryd.prog 16 #[.slice a l.length cap, .string p] w fun e w' => e = .returned (.tuple #[enV (fdV l p.data.toList).1, .bool (fdV l p.data.toList).2]) ∧ Below w.heap.size w w' := by
  obtain ⟨W, hW⟩ : ∃ W, w.alloc (.cells #[.string ⟨#[]⟩, .int .i64 0, .string ⟨#[]⟩] 26) = W := ⟨_, rfl⟩
  obtain ⟨N, hN⟩ : ∃ N, w.heap.size = N := ⟨_, rfl⟩
  have hb0 : Below w.heap.size w W := by rw [← hW]; exact (Below.refl _ _).alloc (Nat.le_refl _) _
  have r0 : EnAt W N ⟨#[]⟩ 0 ⟨#[]⟩ := by rw [← hW, ← hN]; exact enAt_new _ _ _ _
  have HC := Lib.hid (right9 l a cap W (RowN.below h hb0) hs)
  have HE := Lib.hid (RowN.below h hb0)
  have HL := Lib.hid hs.1
  have HB0 := Lib.hid hb0
  have HR0 := Lib.hid r0
  have HNN := Lib.hid (Nat.le_of_eq hN)
  clear h hs hb0 r0
  by_cases hr : RightL l
  · rw [decide_eq_true hr] at HC
    have HA := Lib.hid hr.2.2.1
    have HV := Lib.hid (show fdV l p.data.toList = (match fnd l p.data.toList with
      | some e => (e, true)
      | none => (zE, false)) from if_pos hr)
    clear hr
    go_enter Tryd.func16, Tryd.ntmps16
    go_wp2_with fail
    refine (HC.out).mono ?_
    rintro e w1 ⟨rfl, hb⟩
    have HB1 := Lib.hid (HB0.out.trans (hb.mono HB0.out.size))
    have HE1 := Lib.hid (RowN.below HE.out hb)
    have HR1 := Lib.hid (HR0.out.below hb)
    clear hb
    go_wp2_with fail
    refine (place9 l a cap p _ HE1.out HA.out HL.out).mono ?_
    rintro e w2 ⟨rfl, hb⟩
    have HB2 := Lib.hid (HB1.out.trans (hb.mono HB1.out.size))
    have HE2 := Lib.hid (RowN.below HE1.out hb)
    have HR2 := Lib.hid (HR1.out.below hb)
    clear hb
    have f0 := HR2.out.f0
    have f1 := HR2.out.f1
    have f2 := HR2.out.f2
    have c0 := HR2.out.c0
    have c1 := HR2.out.c1
    have c2 := HR2.out.c2
    cases hf : fnd l p.data.toList with
    | none =>
      rw [hf] at HV
      rw [show (none : Option Ent).isSome = false from rfl]
      clear hf
      go_wp2
      have hld := lv_en (HR2.out.set ⟨#[]⟩ 0 ⟨#[]⟩)
      refine bodyPost_ret (v := .tuple #[entV ⟨#[]⟩ 0 ⟨#[]⟩, .bool false]) ?_ rfl ⟨by rw [HV.out]; rfl, below_en3 HB2.out HNN.out _ _ _⟩
      rw [results_cell9f rfl]
      simp [asAddr, Result.andThen, hld]
    | some x =>
      rw [hf] at HV
      rw [show (some x).isSome = true from rfl]
      obtain ⟨hk, hx, _⟩ := plc_some HA.out hf
      obtain ⟨K, hK⟩ : ∃ K, plc l p.data.toList = K := ⟨_, rfl⟩
      simp only [hK] at hk hx
      rw [hK]
      obtain ⟨b, off, rfl, _, hc⟩ := Ents.at HE2.out (Below.refl _ _) hk
      rw [hx] at hc
      have d0 := hc.c0
      have d1 := hc.c1
      have d2 := hc.c2
      have hk' : (K : Int) < (l.length : Int) := by omega
      clear hf hK hx hc
      go_wp2
      have hld := lv_en (HR2.out.set x.1 x.2.1 x.2.2)
      refine bodyPost_ret (v := .tuple #[entV x.1 x.2.1 x.2.2, .bool true]) ?_ rfl ⟨by rw [HV.out], below_en3 HB2.out HNN.out _ _ _⟩
      rw [results_cell9f rfl]
      simp [asAddr, Result.andThen, hld]
  · rw [decide_eq_false hr] at HC
    have HV := Lib.hid (show fdV l p.data.toList = (zE, false) from if_neg hr)
    clear hr
    go_enter Tryd.func16, Tryd.ntmps16
    go_wp2_with fail
    refine (HC.out).mono ?_
    rintro e w1 ⟨rfl, hb⟩
    have HB1 := Lib.hid (HB0.out.trans (hb.mono HB0.out.size))
    have HR1 := Lib.hid (HR0.out.below hb)
    clear hb
    have f0 := HR1.out.f0
    have f1 := HR1.out.f1
    have f2 := HR1.out.f2
    have c0 := HR1.out.c0
    have c1 := HR1.out.c1
    have c2 := HR1.out.c2
    go_wp2
    have hld := lv_en (HR1.out.set ⟨#[]⟩ 0 ⟨#[]⟩)
    refine bodyPost_ret (v := .tuple #[entV ⟨#[]⟩ 0 ⟨#[]⟩, .bool false]) ?_ rfl ⟨by rw [HV.out]; rfl, below_en3 HB1.out HNN.out _ _ _⟩
    rw [results_cell9f rfl]
    simp [asAddr, Result.andThen, hld]
end Go.Proofs.YthpobihpdomhoaaDoor
