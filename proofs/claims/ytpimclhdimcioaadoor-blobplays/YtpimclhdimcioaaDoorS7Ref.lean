/-
  The contract of the document's own Pages of a text (package shaleref07): its sectors, one behind the other. Condition: the text has at most 20000 bytes.
-/
import Derived.Test.YtpimclhdimcioaaDoorS7Math
import Derived.Test.YtpimclhdimcioaaDoorBuild5
import Derived.Test.YtpimclhdimcioaaDoorRowSet
import Derived.OwnWalk
import Derived.RegionTactic
import Derived.Deep.LoopGhost
import Derived.Lib.Hide
import Derived.Lib.Strings
import Derived.IntWalk
namespace Go.Proofs.YtpimclhdimcioaaDoor
open Go.RowKit
open Extern.Stop (cell)

theorem infoAr7 : (Tryd.prog.info? 39).map (fun i => (i.zero, i.size, i.bytes)) = some (some (pgv zpg), 64, 64) := by kernel_rfl
theorem bdw_ar7 {d : Option Tmp} {ty : TypeId} {pos : String} {af : Array Edge} {g : Option (Nat × Bool)} {a : Act} {w : World} {K : Act → World → Prop} {Q : Exit → Act → World → Prop} :
    Oper.wp Tryd.prog { dst := d, op := .build 39 #[], type := ty, pos := pos, after := af, guard := g } a w K Q = K (a.put d (.agg (cellsB zpg).toArray)) w := by
  have h : (Instr.build 39 #[]).run Tryd.prog w = .ok (.agg (cellsB zpg).toArray) w := by kernel_rfl
  unfold Oper.wp execOp
  simp only [Sem.run_bind, Sem.run_pure, Result.andThen_ok, List.map_toArray, List.map_nil, h]
  rfl
theorem slice_ar7 (w : World) (l : List UInt8) (h : l.length = 64) : (Instr.buildSlice 45 1 #[(0, .agg (cellsB l).toArray)]).run Tryd.prog w = .ok (.slice (some ⟨w.heap.size, 0, none⟩) 1 1) (w.alloc (.cells (cellsB l).toArray 39)) := by
  obtain ⟨ie, hie, hz, hsz, _⟩ := info_parts infoAr7
  have hr : (Array.range (1 * 64)).map ((pgv zpg).cells[· % (pgv zpg).cells.size]!) = zpc := by kernel_rfl
  refine run_buildSlice w 45 39 1 _ _ ie (pgv zpg) Tryd.underlying45 hie hz (by rw [hsz]; decide) (by rw [hsz]; decide) ?_
  rw [hsz, hr]
  have h64 : (cellsB l).length = 64 := by rw [cellsB_len, h]
  have hz64 : (cellsB zpg).length = 64 := by rw [cellsB_len, zpg_len]
  have e : zpc = ([] ++ cellsB zpg ++ []).toArray := by simp [zpc]
  show Instr.fill (fun i => some (i * 64, 64)) zpc _ = _
  rw [e, fill_step (place := fun i => some (i * 64, 64)) (off := 0) (size := 64) rfl (cellsB l) [] (cellsB zpg) [] rfl h64 hz64 rfl]
  simp [Instr.fill]
theorem bsw_ar7 {d : Option Tmp} {ty : TypeId} {pos : String} {af : Array Edge} {g : Option (Nat × Bool)} {x : Operand} {a : Act} {w : World} {K : Act → World → Prop} {Q : Exit → Act → World → Prop} (hx : a.eval x = .agg (cellsB zpg).toArray) :
    Oper.wp Tryd.prog { dst := d, op := .buildSlice 45 1 #[(0, x)], type := ty, pos := pos, after := af, guard := g } a w K Q = K (a.put d (.slice (some ⟨w.heap.size, 0, none⟩) 1 1)) (w.alloc (.cells (cellsB zpg).toArray 39)) := by
  unfold Oper.wp execOp
  simp only [Sem.run_bind, Sem.run_pure, Result.andThen_ok, List.map_toArray, List.map_cons, List.map_nil, hx, slice_ar7 w zpg zpg_len]
  rfl

/-- The sectors that hold the first k bytes. -/
abbrev OwnP (w : World) (B : Nat) (v : Value) (m : Nat) (l : List UInt8) : Prop := w.ownsRow B 39 64 v m (cellsB (fl l (64 * m)))
theorem fl_zpg (l : List UInt8) (m : Nat) (h : l.length ≤ 64 * m) : fl l (64 * m) ++ zpg = fl l (64 * (m + 1)) := by
  unfold fl zpg
  rw [List.take_of_length_le h, List.take_of_length_le (by omega), List.append_assoc, List.replicate_append_replicate]
  congr 2
  omega
theorem fl_next (l : List UInt8) (k n : Nat) (hk : k < l.length) (hn : k < n) : fl (l.take (k + 1)) n = (fl (l.take k) n).take k ++ [l[k]] ++ (fl (l.take k) n).drop (k + 1) := by
  apply List.ext_getElem?
  intro j
  have hlen : ((fl (l.take k) n).take k).length = k := by rw [List.length_take, fl_len]; omega
  by_cases hj : j < n
  · rw [fl_get _ _ _ hj, List.getD_eq_getElem?_getD, List.getElem?_take]
    by_cases h1 : j < k
    · rw [List.getElem?_append_left (by rw [List.length_append, hlen]; omega), List.getElem?_append_left (by omega), List.getElem?_take, if_pos h1, fl_get _ _ _ hj, List.getD_eq_getElem?_getD, List.getElem?_take, if_pos h1, if_pos (by omega)]
    · by_cases h2 : j = k
      · subst h2
        rw [if_pos (by omega), List.getElem?_append_left (by rw [List.length_append, hlen]; simp), List.getElem?_append_right (by omega), hlen, List.getElem?_eq_getElem hk]
        simp
      · rw [if_neg (by omega), List.getElem?_append_right (by rw [List.length_append, hlen]; simp; omega), List.length_append, hlen, List.getElem?_drop, List.length_singleton, show k + 1 + (j - (k + 1)) = j by omega, fl_get _ _ _ hj, List.getD_eq_getElem?_getD, List.getElem?_take, if_neg (by omega)]
  · rw [List.getElem?_eq_none (by rw [fl_len]; omega), List.getElem?_eq_none (by rw [List.length_append, List.length_append, hlen, List.length_drop, fl_len]; simp; omega)]

theorem cellsB_append (a b : List UInt8) : cellsB (a ++ b) = cellsB a ++ cellsB b := by simp [cellsB]
theorem owns_cons7 {w : World} {B : Nat} {e : TypeId} {C : Nat} {v : Value} {n : Nat} {xs : List Value} (h : w.ownsRow B e C v n xs) (h0 : 0 < n) : ∃ g cap, v = .slice (some ⟨g, 0, none⟩) n cap := by
  obtain ⟨_, ⟨rfl, h2⟩ | ⟨g, cap, cur, rfl, _⟩⟩ := h
  · omega
  · exact ⟨g, cap, rfl⟩
theorem owns_cap {w : World} {B : Nat} {e : TypeId} {C g n cap : Nat} {xs : List Value} (h : w.ownsRow B e C (.slice (some ⟨g, 0, none⟩) n cap) n xs) : n ≤ cap := by
  obtain ⟨_, ⟨h2, _⟩ | ⟨g, cap, cur, h2, _, _, h3, _⟩⟩ := h
  · cases h2
  · cases h2; exact h3
theorem own_put7 {w : World} {B g m cap : Nat} {l : List UInt8} {k : Nat} (h : OwnP w B (.slice (some ⟨g, 0, none⟩) m cap) m (l.take k)) (hk : k < l.length) (hm : k < 64 * m) : OwnP (w.setCell ⟨g, k, none⟩ (cell l[k])) B (.slice (some ⟨g, 0, none⟩) m cap) m (l.take (k + 1)) := by
  have h2 := owns_put (w := w) h k [cell l[k]] (by simp; omega)
  unfold OwnP
  rw [fl_next l k _ hk hm, cellsB_append, cellsB_append]
  unfold cellsB at h2 ⊢
  rw [← List.map_take, ← List.map_drop] at h2
  exact h2
attribute [local go_sem ↓] bdw_ar7 bsw_ar7
set_option maxRecDepth 10000 in
set_option maxHeartbeats 4000000 in
theorem rpages_any (s : ByteArray) (hs : s.size ≤ 20000) (w : World) :
    Calls Tryd.prog 16 #[.string s] w fun e w' => ∃ v, e = .returned v ∧ OwnP w' w.heap.size v (npg s.size) s.data.toList ∧ Below w.heap.size w w' := by
  obtain ⟨iA, hiA, hA0, hA1, hA2⟩ := info_parts infoAr7
  have KA := Lib.hid (And.intro hiA (And.intro hA0 (And.intro hA1 hA2)))
  have HZ := Lib.hid (Lib.size_eq s)
  clear hiA hA0 hA1 hA2
  go_enter Tryd.func16, Tryd.ntmps16
  go_wp2
  go_loopg [3, 4] s.size (fun g v i wx => ∃ (k : Nat), i = .int .i64 (k : Int) ∧ k + g = s.size ∧ Hid (OwnP wx w.heap.size v (npg k) (s.data.toList.take k) ∧ Below w.heap.size w wx))
  case atStart => exact ⟨0, rfl, by omega, World.ownsRow_nil _ _ _ _, Below.refl _ _⟩
  case round =>
    obtain ⟨k, rfl, hk, HR⟩ := hrel
    by_cases hlt : k < s.size
    · have hlt' : (k : Int) < (s.size : Int) := by omega
      have hw : IntKind.i64.wrap ((k : Int) + 1) = (k : Int) + 1 := IntWalk.i64_in _ (by omega)
      obtain ⟨q, hq⟩ : ∃ q, k / 64 = q := ⟨_, rfl⟩
      obtain ⟨r, hr⟩ : ∃ r, k % 64 = r := ⟨_, rfl⟩
      obtain ⟨m, hm⟩ : ∃ m, npg (k + 1) = m := ⟨_, rfl⟩
      have hq' : (k : Int) / 64 = (q : Int) := by omega
      have hr' : (k : Int) % 64 = (r : Int) := by omega
      have HMM := Lib.hid hm
      have HMQ := Lib.hid (show q < m ∧ k < 64 * m ∧ q * 64 + r = k ∧ r < 64 by unfold npg at hm; omega)
      by_cases h0 : r = 0
      · have h0' : ((r : Int) == 0) = true := by simp [h0]
        have HM1 := Lib.hid (show npg k + 1 = m ∧ 64 * npg k = k by unfold npg at *; omega)
        clear hq hr hm h0
        go_wp2_with (at_builtin; refine Stopped.go ?_)
        unfold Stopped
        refine wl_append_any (by rfl) _ _ 45 (by rfl) w.heap.size 39 iA (pgv zpg) 64 64 Tryd.underlying45 KA.out.1 KA.out.2.1 KA.out.2.2.1 KA.out.2.2.2 rfl (by decide) u3 (npg k) _ (by rfl) (HR.out.1.alloc _) (some ⟨wr.heap.size, 0, none⟩) 1 1 (cellsB zpg) (by rfl) ?l1 ?s1 (fun e => by cases e) ?o1 ?m1 ?b1 ?z1 ?_
        case l1 => rw [cellsB_len, zpg_len]
        case s1 =>
          intro ad e j u hu
          cases e
          rw [Addr.add_lit, Nat.zero_add]
          have := range_cells wr wr.heap.size rfl (cellsB zpg) 39 j u hu
          rwa [Nat.zero_add] at this
        case o1 => intro u hu; obtain ⟨c, _, rfl⟩ := List.mem_map.1 hu; rfl
        case m1 => have := HM1.out; unfold maxLen; omega
        case b1 => have := HM1.out; omega
        case z1 => have := HR.out.2.size; simp; omega
        intro v4 w4 ho4 hg4
        have HB4 := Lib.hid ((HR.out.2.alloc HR.out.2.size (.cells (cellsB zpg).toArray 39)).grown hg4 (by have := HR.out.2.size; simp; omega) (own_blk HR.out.1))
        have HO := Lib.hid (show OwnP w4 w.heap.size v4 m (s.data.toList.take k) by
          have e1 := fl_zpg (s.data.toList.take k) (npg k) (by rw [List.length_take]; have := HM1.out.2; omega)
          unfold OwnP
          rw [← HM1.out.1, ← e1, cellsB_append]
          exact ho4)
        clear ho4 hg4
        obtain ⟨g, cap, hv⟩ := owns_cons7 HO.out (by have := HMQ.out; omega)
        subst hv
        have hth := owns_there HO.out (o := k) (m := 1) (by have := owns_cap HO.out; have := HMQ.out; omega)
        have hc := (hth 0 (by decide)).1
        have hf := (hth 0 (by decide)).2
        have HS := Lib.hid (own_put7 HO.out (by have := HZ.out; omega) (by have := HMQ.out; omega))
        have HG := Lib.hid (own_blk HO.out g rfl)
        have HB5 := Lib.hid (HB4.out.setCell (p := ⟨g, k, none⟩) HG.out (cell (s.data.toList[k]'(by have := HZ.out; omega))))
        rw [Nat.add_zero, ← HMQ.out.2.2.1] at hc hf
        obtain ⟨x, hx⟩ := Option.isSome_iff_exists.1 hc
        have hqm : (q : Int) < (m : Int) := by have := HMQ.out.1; omega
        have hr64 : (r : Int) < 64 := by have := HMQ.out.2.2.2; omega
        clear hth hc
        have HX := Lib.hid (show OwnP ((w4.setCell ⟨g, q * 64 + r, none⟩ (.int .u8 (s[k].toNat : Int))).drew) w.heap.size (.slice (some ⟨g, 0, none⟩) m cap) m (s.data.toList.take (k + 1)) ∧ Below w.heap.size w ((w4.setCell ⟨g, q * 64 + r, none⟩ (.int .u8 (s[k].toNat : Int))).drew) by
          rw [HMQ.out.2.2.1]
          exact ⟨HS.out, HB5.out.drew⟩)
        clear HS HB5
        go_wp2
        go_region
        generalize (w4.setCell ⟨g, q * 64 + r, none⟩ (.int .u8 (s[k].toNat : Int))).drew = W5 at HX ⊢
        clear hx hf
        go_wp2
        go_roundg (gk - 1)
        case measure => omega
        case rel => exact ⟨k + 1, by simp, by omega, by rw [HMM.out]; exact HX.out.1, HX.out.2⟩
      · have h0' : ((r : Int) == 0) = false := by simp; omega
        have HO := Lib.hid (show OwnP wr w.heap.size u3 m (s.data.toList.take k) by
          have e : npg k = m := by unfold npg at *; omega
          have := HR.out.1
          rwa [e] at this)
        have HB4 := Lib.hid HR.out.2
        clear hq hr hm h0
        obtain ⟨g, cap, hv⟩ := owns_cons7 HO.out (by have := HMQ.out; omega)
        subst hv
        have hth := owns_there HO.out (o := k) (m := 1) (by have := owns_cap HO.out; have := HMQ.out; omega)
        have hc := (hth 0 (by decide)).1
        have hf := (hth 0 (by decide)).2
        have HS := Lib.hid (own_put7 HO.out (by have := HZ.out; omega) (by have := HMQ.out; omega))
        have HG := Lib.hid (own_blk HO.out g rfl)
        have HB5 := Lib.hid (HB4.out.setCell (p := ⟨g, k, none⟩) HG.out (cell (s.data.toList[k]'(by have := HZ.out; omega))))
        rw [Nat.add_zero, ← HMQ.out.2.2.1] at hc hf
        obtain ⟨x, hx⟩ := Option.isSome_iff_exists.1 hc
        have hqm : (q : Int) < (m : Int) := by have := HMQ.out.1; omega
        have hr64 : (r : Int) < 64 := by have := HMQ.out.2.2.2; omega
        clear hth hc
        have HX := Lib.hid (show OwnP ((wr.setCell ⟨g, q * 64 + r, none⟩ (.int .u8 (s[k].toNat : Int))).drew) w.heap.size (.slice (some ⟨g, 0, none⟩) m cap) m (s.data.toList.take (k + 1)) ∧ Below w.heap.size w ((wr.setCell ⟨g, q * 64 + r, none⟩ (.int .u8 (s[k].toNat : Int))).drew) by
          rw [HMQ.out.2.2.1]
          exact ⟨HS.out, HB5.out.drew⟩)
        clear HS HB5
        go_wp2
        go_region
        generalize (wr.setCell ⟨g, q * 64 + r, none⟩ (.int .u8 (s[k].toNat : Int))).drew = W5 at HX ⊢
        clear hx hf
        go_wp2
        go_roundg (gk - 1)
        case measure => omega
        case rel => exact ⟨k + 1, by simp, by omega, by rw [HMM.out]; exact HX.out.1, HX.out.2⟩
    · have hlt' : ¬ (k : Int) < (s.size : Int) := by omega
      have HF := Lib.hid (show OwnP wr w.heap.size u3 (npg s.size) s.data.toList by
        have e : k = s.size := by omega
        have h3 := HR.out.1
        rwa [e, List.take_of_length_le (by have := HZ.out; omega)] at h3)
      go_wp2
      go_ret
      exact ⟨_, rfl, HF.out, HR.out.2⟩
end Go.Proofs.YtpimclhdimcioaaDoor
