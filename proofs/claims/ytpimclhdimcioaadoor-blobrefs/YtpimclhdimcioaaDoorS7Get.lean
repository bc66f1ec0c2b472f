/-
  The contract of package blob's Get: of a place that does not lie on the disk, of nil; of a disk that is down; else the text, if its sum is the one that is told. Conditions: as each says.
-/
import Derived.Test.YtpimclhdimcioaaDoorS7Put2
import Derived.Test.YtpimclhdimcioaaDoorAppendAny
namespace Go.Proofs.YtpimclhdimcioaaDoor
open Go.RowKit Go.Maps
open Extern.Stop (cell)

attribute [local go_sem ↓] old_ldrf old_ldi old_ldu ldw_pg stw_pg alw_pg
attribute [local go_sem] oldC_forall isPgV_ptr pgAtV_ptr thereV_ptr setV_ptr cellsV_agg isC1_ptr c1V_ptr
/-- What lies on the run of sectors at k, cut to n bytes. -/
def gotL (D : DskV) (k : Int) (n : Nat) : List UInt8 := (joined (fun i => D.seen (k + (i : Int))) (npg n)).take n
theorem seen_len {D : DskV} (h : D.ok) (i : Int) : (D.seen i).length = 64 := by
  unfold DskV.seen
  split
  · exact h.read i
  · exact zpg_len
theorem gotL_len {D : DskV} (h : D.ok) (k : Int) (n : Nat) : (gotL D k n).length = n := by
  unfold gotL
  rw [List.length_take, joined_len _ fun i => seen_len h _]
  have := npg_ge n
  omega
theorem cellsB_app (a b : List UInt8) : cellsB (a ++ b) = cellsB a ++ cellsB b := by simp [cellsB]
theorem owns_slice {w : World} {B : Nat} {e : TypeId} {C : Nat} {v : Value} {n : Nat} {xs : List Value} (h : w.ownsRow B e C v n xs) (h0 : 0 < n) : ∃ g cap, v = .slice (some ⟨g, 0, none⟩) n cap ∧ n ≤ cap := by
  obtain ⟨_, ⟨rfl, h2⟩ | ⟨g, cap, cur, rfl, _, _, h3, _⟩⟩ := h
  · omega
  · exact ⟨g, cap, rfl, h3⟩
/-- The first n bytes of a row of the call's own, as a text. -/
theorem conv_part {w : World} {base m : Nat} {l : List UInt8} {g cap : Nat} (h : w.ownsRow base 5 1 (.slice (some ⟨g, 0, none⟩) m cap) m (cellsB l)) (n : Nat) (hn : n ≤ l.length) (hm : l.length = m) :
    (convert 63 9 (.slice (some ⟨g, 0, none⟩) n cap)).run Tryd.prog w = .ok (.string (bs (l.take n))) w := by
  have hl : (l.take n).length = n := by rw [List.length_take]; omega
  have := run_convert_bytes_back (P := Tryd.prog) w 63 9 5 ⟨g, 0, none⟩ cap (l.take n) Tryd.underlying63 Tryd.underlying5 Tryd.underlying9 (fun j hj => ?_)
  · rw [hl] at this
    exact this
  obtain ⟨_, ⟨h1, _⟩ | ⟨g', cap', cur, h1, _, h2, _, _, _, h3⟩⟩ := h
  · cases h1
  · obtain ⟨rfl, rfl⟩ : g = g' ∧ cap = cap' := by simpa using h1
    rw [Addr.add_lit, Nat.zero_add]
    have hjm : j < m := by omega
    have h4 : cur[j]? = some (.int .u8 ((l.take n)[j].toNat : Int)) := by
      have := congrArg (·[j]?) h3
      simp only [List.getElem?_take, Nat.mul_one, if_pos hjm] at this
      rw [Array.getElem?_toList] at this
      rw [this, cellsB, List.getElem?_map, List.getElem?_eq_getElem (by omega)]
      simp [cell]
    simp [World.cell?, h2, h4]
set_option maxRecDepth 10000 in
set_option maxHeartbeats 1000000 in
theorem get_arg (d : Value) (size : Int) (hs : size ≤ 9223372036854775807) (k n s : Int) (hr : rt k n size = false) (w : World) (hd : ∀ w1, Below w.heap.size w w1 → SizeIs d size w1) : Calls Tryd.prog 11 #[d, refV k n s] w fun e w' => e = .returned (.tuple #[.string ⟨#[]⟩, .iface 57 (.int .i64 1)]) ∧ Below w.heap.size w w' := by
  have HR : Hid (∀ w0 w', OldC w0 w' → Calls Tryd.prog 13 #[refV k n s, .int .i64 size] w' fun e w'' => e = .returned (.bool false) ∧ OldC w0 w'') := by
    rw [← hr]
    exact right_old _ _ _ _ hs
  have HS := Lib.hid hd
  clear hd hr hs
  go_enter Tryd.func11, Tryd.ntmps11
  go_wp2_with fail
  obtain ⟨W, hW⟩ : ∃ W, w.alloc (.cells #[.int .i64 k, .int .i64 n, .int .u32 s] 32) = W := ⟨_, rfl⟩
  have hb : Below w.heap.size w W := by rw [← hW]; exact (Below.refl _ _).alloc (Nat.le_refl _) _
  have r1 : RfAt W w.heap.size k n s := by rw [← hW]; exact rfAt_new _ _ _ _
  rw [hW]
  have HB := Lib.hid hb
  have HS1 := Lib.hid (HS.out W hb)
  obtain ⟨i1, i2⟩ := r1.is
  clear hW hb HS r1
  refine wp_region_old (by kernel_rfl) (by kernel_rfl) ?_
  repeat (go_big_quiet_step ((first | (intro hw; with_reducible exact HS1.out _ hw) | (intro hw; with_reducible exact HR.out _ _ hw))))
  refine wpQuiet_nil ?_
  intro w9 hw9
  have HE := Lib.hid (show Below w.heap.size w w9 from HB.out.trans (Below.mono hw9 HB.out.size))
  clear hw9 HB HS1 HR i1 i2
  go_wp2
  go_ret2
  exact ⟨rfl, HE.out⟩
end Go.Proofs.YtpimclhdimcioaaDoor
