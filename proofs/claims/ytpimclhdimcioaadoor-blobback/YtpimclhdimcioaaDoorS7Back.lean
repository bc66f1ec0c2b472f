/-
  The law BlobBack, walked: for every text, place and byte it returns true and changes nothing that was there. Condition: errorType holds error's type.
-/
import Derived.Test.YtpimclhdimcioaaDoorS7Law
import Derived.Test.YtpimclhdimcioaaDoorS7Awake
import Derived.Test.YtpimclhdimcioaaDoorBytesOf
namespace Go.Proofs.YtpimclhdimcioaaDoor
open Go.RowKit Go.Maps
open Extern.Stop (cell)

theorem one_adl (l : List UInt8) (i : Nat) (c : UInt8) (h : i < l.length) : (adl (l.set i (l[i] ^^^ c)) = adl l) = (c = 0) := by
  rw [adl_set l i _ h]
  apply propext
  constructor
  · intro e
    have h1 : l[i] ^^^ (l[i] ^^^ c) = l[i] ^^^ l[i] := by rw [e]
    rwa [← UInt8.xor_assoc, UInt8.xor_self, UInt8.zero_xor] at h1
  · intro e
    rw [e, UInt8.xor_zero]
/-- With one byte of a sector changed another text lies there. -/
theorem got_change {D : DskV} (hu : D.Up) {k : Int} {l : List UInt8} {n : Nat} (hn : l.length = n) (h0 : 0 ≤ k) (h1 : k + (npg n : Int) ≤ D.size) (hs : ∀ i, i < npg n → D.seen (k + (i : Int)) = sec l i) (c : Nat) (hc : c < n) (x : UInt8) :
    gotL (D.wrote (k + ((c / 64 : Nat) : Int)) ((sec l (c / 64)).set (c % 64) x)) k n = l.set c x := by
  have hq : c / 64 < npg n := npg_at hc
  have hw : D.wrote (k + ((c / 64 : Nat) : Int)) ((sec l (c / 64)).set (c % 64) x) = { D with soft := D.soft ++ [(k + ((c / 64 : Nat) : Int), (sec l (c / 64)).set (c % 64) x)] } := by
    unfold DskV.wrote
    rw [if_pos (Up.refuse hu (by omega) (by omega)), Up.write hu]
  rw [hw]
  refine got_of (by rw [List.length_set, hn]) fun i hi => ?_
  rw [Up.seen (D := { D with soft := D.soft ++ [(k + ((c / 64 : Nat) : Int), (sec l (c / 64)).set (c % 64) x)] }) hu (by omega) (by show k + (i : Int) < D.size; omega)]
  show lst (D.soft ++ [(k + ((c / 64 : Nat) : Int), (sec l (c / 64)).set (c % 64) x)]) (k + (i : Int)) (D.firm (k + (i : Int))) = _
  rw [lst_snoc, sec_set l c (by omega) x i]
  by_cases e : i = c / 64
  · rw [if_pos e, if_pos (by rw [e]), e]
  · rw [if_neg e, if_neg (by simp; omega), ← hs i hi, Up.seen hu (by omega) (by omega)]
    rfl
theorem sec_at (l : List UInt8) (c : Nat) (hc : c < l.length) : (sec l (c / 64))[c % 64]? = some l[c] := by
  rw [sec_get _ _ _ (Nat.mod_lt _ (by decide)), List.getD_eq_getElem?_getD, show 64 * (c / 64) + c % 64 = c by omega, List.getElem?_eq_getElem hc]
  rfl
theorem wrap_q {q : Nat} (h : q < 1000) : wrap64 (q : Int) = (q : Int) := by
  unfold wrap64
  omega
theorem back_facts {a ch np m k x q r n : Nat} (ha : a < 65536) (hch : ch < 65536) (hm : 301 - np = m) (hn1 : 1 ≤ np ∧ np ≤ 256) (hk : a % m = k) (hkm : k < m) (hx : ch % n = x) (hq : x / 64 = q) (hr : x % 64 = r) (hqn : q < np) (h1 : 1 ≤ n) :
    IntKind.i64.wrap (a : Int) = (a : Int) ∧ IntKind.i64.wrap (ch : Int) = (ch : Int) ∧ IntKind.i64.wrap (300 - (np : Int)) = 300 - (np : Int) ∧ IntKind.i64.wrap (300 - (np : Int) + 1) = (m : Int) ∧ IntKind.i64.wrap ((k : Int) + (q : Int)) = (k : Int) + (q : Int) ∧ IntKind.i64.wrap (q : Int) = (q : Int) ∧ wrap64 (q : Int) = (q : Int) ∧ wrap64 ((k : Int) + (q : Int)) = (k : Int) + (q : Int) ∧ (a : Int) % (m : Int) = (k : Int) ∧ (ch : Int) % (n : Int) = (x : Int) ∧ (x : Int) / 64 = (q : Int) ∧ (x : Int) % 64 = (r : Int) ∧ ((m : Int) == 0) = false ∧ ((n : Int) == 0) = false ∧ ¬ m = 0 ∧ (0 : Int) < (m : Int) ∧ 0 < n ∧ (0 : Int) < (n : Int) ∧ (r : Int) < 64 := by
  refine ⟨IntWalk.i64_in _ (by omega), IntWalk.i64_in _ (by omega), IntWalk.i64_in _ (by omega), ?_, IntWalk.i64_in _ (by omega), IntWalk.i64_in _ (by omega), wrap_q (by omega), ?_, by rw [← hk]; rfl, by rw [← hx]; rfl, by omega, by omega, beq_eq_false_iff_ne.2 (by omega), beq_eq_false_iff_ne.2 (by omega), by omega, by omega, by omega, by omega, by omega⟩
  · rw [show 300 - (np : Int) + 1 = (m : Int) by omega]
    exact IntWalk.i64_in _ (by omega)
  · rw [← Int.natCast_add]
    exact wrap_q (by omega)
attribute [local go_sem ↓] ldw_pg stw_pg alw_pg
attribute [local go_sem] isPgV_ptr pgAtV_ptr thereV_ptr setV_ptr cellsV_agg
set_option maxRecDepth 10000 in
set_option maxHeartbeats 4000000 in
theorem back_long (s : ByteArray) (v1 v2 v3 : Value) (h : (s.size : Int) < 1 ∨ (¬ (s.size : Int) < 1 ∧ (16384 : Int) < (s.size : Int))) (W : World) :
    Calls Tryd.prog 3 #[.string s, v1, v2, v3] W fun e w' => e = .returned (.bool true) ∧ Below W.heap.size W w' := by
  rcases h with h | ⟨h1, h⟩
  all_goals
    go_enter Tryd.func3, Tryd.ntmps3
    go_wp2_with fail
    refine (awake7 _).mono ?_
    rintro e w1 ⟨rfl, hb⟩
    have HB := Lib.hid hb
    clear hb
    go_wp2_with fail
    refine (awake7 _).mono ?_
    rintro e w2 ⟨rfl, hb⟩
    have HB2 := Lib.hid (HB.out.trans (hb.mono HB.out.size))
    clear hb
    go_wp2
    go_ret
    exact ⟨rfl, HB2.out⟩
set_option maxRecDepth 10000 in
set_option maxHeartbeats 4000000 in
theorem back_good (s : ByteArray) (a ch : Nat) (ha : a < 65536) (hch : ch < 65536) (c : UInt8) (h1 : 1 ≤ s.size) (h2 : s.size ≤ 16384) (W : World) (hg : EtLaid W) :
    Calls Tryd.prog 3 #[.string s, .int .u16 (a : Int), .int .u16 (ch : Int), .int .u8 (c.toNat : Int)] W fun e w' => e = .returned (.bool true) ∧ Below W.heap.size W w' := by
  have HG := Lib.hid hg
  have HBT := Lib.hid hg.lt
  have hc0 := byte_lt c
  obtain ⟨l, hl⟩ : ∃ l, s.data.toList = l := ⟨_, rfl⟩
  have hll : l.length = s.size := by rw [← hl, Lib.size_eq]
  obtain ⟨np, hnp⟩ : ∃ np, npg s.size = np := ⟨_, rfl⟩
  have hp : pgs (s.size : Int) = (np : Int) := by rw [pgs_nat h1 h2, hnp]
  have hn1 : 1 ≤ np ∧ np ≤ 256 := by
    have := npg_pos h1
    have h3 := pgs_bd (s.size : Int)
    rw [hp] at h3
    rw [hnp] at this
    omega
  obtain ⟨m, hm⟩ : ∃ m : Nat, 301 - np = m := ⟨_, rfl⟩
  obtain ⟨k, hk⟩ : ∃ k : Nat, a % m = k := ⟨_, rfl⟩
  have hkm : k < m := by rw [← hk]; exact Nat.mod_lt _ (by omega)
  obtain ⟨x, hx⟩ : ∃ x : Nat, ch % s.size = x := ⟨_, rfl⟩
  have hxn : x < s.size := by rw [← hx]; exact Nat.mod_lt _ (by omega)
  obtain ⟨q, hq⟩ : ∃ q : Nat, x / 64 = q := ⟨_, rfl⟩
  obtain ⟨r, hr⟩ : ∃ r : Nat, x % 64 = r := ⟨_, rfl⟩
  have hqn : q < np := by rw [← hq, ← hnp]; exact npg_at hxn
  have hA1 : ¬ (s.size : Int) < 1 := by omega
  have hA2 : ¬ (16384 : Int) < (s.size : Int) := by omega
  obtain ⟨D1, hD1⟩ : ∃ D1, put7 (DskV.fresh 300) (k : Int) l np = D1 := ⟨_, rfl⟩
  have hu1 : D1.Up := by rw [← hD1]; exact put7_up (up_fresh 300) _ _ _
  have hz1 : D1.size = 300 := by rw [← hD1]; rfl
  have hs1 : D1.soft.length = np := by rw [← hD1, put7_soft]; show 0 + np = np; omega
  have hse : ∀ i, i < npg s.size → D1.seen ((k : Int) + (i : Int)) = sec l i := fun i hi => by
    rw [← hD1, seen_put7 (up_fresh 300) _ _ _ (by omega) (by show (k : Int) + (i : Int) < 300; omega), if_pos (by omega)]
    congr 1
    omega
  have hgs : gotL D1 (k : Int) s.size = l := got_of hll hse
  obtain ⟨y, hy⟩ : ∃ y, l[x]'(by omega) = y := ⟨_, rfl⟩
  have hxor := xor_u8 y c
  obtain ⟨z, hz⟩ : ∃ z, y ^^^ c = z := ⟨_, rfl⟩
  have hadl := one_adl l x c (by omega)
  rw [hy, hz] at hadl
  rw [hz] at hxor
  obtain ⟨D2, hD2⟩ : ∃ D2, D1.wrote ((k : Int) + (q : Int)) ((sec l q).set r z) = D2 := ⟨_, rfl⟩
  have hg2 : gotL D2 (k : Int) s.size = l.set x z := by
    have := got_change hu1 hll (by omega) (by rw [hz1, hnp]; omega) hse x hxn z
    rw [hq, hr, hD2] at this
    exact this
  have hre : D1.refuse ((k : Int) + (q : Int)) = 0 := Up.refuse hu1 (by omega) (by rw [hz1]; omega)
  have hdn2 : D2.down = false ∧ D2.size = 300 := by
    rw [← hD2]
    unfold DskV.wrote
    rw [if_pos hre]
    exact ⟨hu1.1, hz1⟩
  have hat : (sec l q)[r]? = some y := by rw [← hq, ← hr, sec_at l x (by omega), hy]
  have HN := Lib.hid (show 1 ≤ s.size ∧ s.size ≤ 16384 ∧ k + np ≤ 300 ∧ q < np ∧ r < 64 ∧ np ≤ 256 ∧ k + q < 300 by omega)
  have HK0 := Lib.hid (show 0 ≤ (k : Int) by omega)
  have HK1 := Lib.hid (show (k : Int) + (np : Int) ≤ 300 by omega)
  have HK2 := Lib.hid (show np < 1000 by omega)
  have HP := Lib.hid hp
  have HLS := Lib.hid hl
  have HNP := Lib.hid hnp
  have HD1 := Lib.hid hD1
  have HD2 := Lib.hid hD2
  have HU1 := Lib.hid hu1
  have HZ1 := Lib.hid hz1
  have HS1 := Lib.hid hs1
  have HSE := Lib.hid (show D1.seen ((k : Int) + (q : Int)) = sec l q from hse q (by omega))
  have HWY := Lib.hid (show D1.why ((k : Int) + (q : Int)) = 0 from Up.why hu1 (by omega) (by rw [hz1]; omega))
  have HGS := Lib.hid hgs
  have HG2 := Lib.hid hg2
  have HRE := Lib.hid hre
  have HDN2 := Lib.hid hdn2
  have HAT := Lib.hid hat
  have HADL := Lib.hid hadl
  have HLL := Lib.hid hll
  have HYZ := Lib.hid (show c = 0 → l.set x z = l by
    intro e
    rw [← hz, e, UInt8.xor_zero, ← hy]
    exact List.set_getElem_self _)
  have HRT := Lib.hid (show rt (k : Int) (s.size : Int) 300 = true from rt_of (by omega) (by omega) (by omega) (by rw [hp]; omega))
  obtain ⟨hw0, hw1, hw2, hw3, hw4, hw5, hw6, hw7, hd1, hd2, hd3, hd4, hm0, hn0, hm1, hm2, hn3, hn4, hr64⟩ := back_facts ha hch hm hn1 hk hkm hx hq hr hqn h1
  clear hl hll hnp hp hn1 hm hk hkm hx hxn hq hr hqn hD1 hu1 hz1 hs1 hse hgs hy hz hadl hD2 hg2 hre hdn2 hat h1 h2 hg ha hch
  go_enter Tryd.func3, Tryd.ntmps3
  go_wp2_with fail
  refine (awake7 _).mono ?_
  rintro e w1 ⟨rfl, hb1⟩
  have HB1 := Lib.hid hb1
  have HG1 := Lib.hid (HG.out.below HBT.out hb1)
  clear hb1
  go_wp2_with fail
  refine (ses_new (W := W) (B := W.heap.size) 300 (by decide) (by decide) HB1.out (Nat.le_refl _) HG1.out).mono ?_
  rintro e w2 ⟨b, F2, rfl, hs2, _, _⟩
  rw [show errV 0 = .nilIface from rfl]
  have HS2 := Lib.hid hs2
  clear hs2
  go_wp2_with fail
  refine (pages_any _ _).mono ?_
  rintro e w3 ⟨rfl, rfl⟩
  rw [HP.out]
  go_wp2_with fail
  refine (ses_put HS2.out HBT.out (up_fresh 300) (k : Int) s HN.out.1 HN.out.2.1 HK0.out (by rw [HNP.out]; exact HK1.out) (by rw [HNP.out]; show 0 + np ≤ 1000; rw [Nat.zero_add]; exact Nat.le_of_lt HK2.out)).mono ?_
  rintro e w3 ⟨rfl, F3, hs3, _⟩
  rw [HNP.out, HLS.out, HD1.out] at hs3
  rw [HLS.out]
  have hx3 := hs3.box (.cells #[.int .i64 (k : Int), .int .i64 (s.size : Int), .int .u32 (adl l)] 32)
  have r4 := rfAt_new w3 (k : Int) (s.size : Int) (adl l)
  obtain ⟨w4, hw4'⟩ : ∃ w4, w3.alloc (.cells #[.int .i64 (k : Int), .int .i64 (s.size : Int), .int .u32 (adl l)] 32) = w4 := ⟨_, rfl⟩
  rw [hw4'] at hx3 r4
  obtain ⟨N, hN⟩ : ∃ N, w3.heap.size = N := ⟨_, rfl⟩
  rw [hN] at hx3 r4
  have HS4 := Lib.hid hx3.1
  have HF4 := Lib.hid hx3.2.1
  have HR4 := Lib.hid r4
  have c0 := r4.c0
  have c1 := r4.c1
  have c2 := r4.c2
  clear hs3 hx3 r4 HS2
  go_wp2_with fail
  refine (ses_get HS4.out HU1.out.1 (k : Int) s.size (adl l) HN.out.1 HN.out.2.1 HK0.out (by rw [HNP.out, HZ1.out]; exact HK1.out)).mono ?_
  rintro e w5 ⟨rfl, hs5, hb5⟩
  rw [HGS.out, if_pos rfl, if_pos rfl, show bs l = s by rw [← HLS.out, bs_self], show errV 0 = .nilIface from rfl]
  have HS5 := Lib.hid hs5
  have r5 := HR4.out.below hb5
  have HR5 := Lib.hid r5
  have d0 := r5.c0
  have d1 := r5.c1
  have d2 := r5.c2
  clear hs5 hb5 r5 HS4 HR4 c0 c1 c2 hw4' hN
  go_wp2_with fail
  refine (codeZ _).mono ?_
  rintro e w6 ⟨rfl, rfl⟩
  go_wp2_with fail
  refine (codeZ _).mono ?_
  rintro e w6 ⟨rfl, rfl⟩
  go_wp2_with fail
  refine (codeZ _).mono ?_
  rintro e w6 ⟨rfl, rfl⟩
  go_wp2_with fail
  refine (right_any _ _ _ _ (by decide) _).mono ?_
  rintro e w6 ⟨rfl, hb6⟩
  rw [HRT.out]
  have HS6 := Lib.hid (HS5.out.keep hb6)
  have HR6 := Lib.hid (HR5.out.below hb6)
  clear hb6 HS5 HR5 d0 d1 d2
  go_wp2_with fail
  refine (ses_read HS6.out _).mono ?_
  rintro e w7 ⟨rfl, hs7, hb7⟩
  rw [HSE.out, HWY.out, show errV 0 = .nilIface from rfl, hd2]
  have HS7 := Lib.hid hs7
  have HR7 := Lib.hid (HR6.out.below hb7)
  have hl64 : (sec l q).length = 64 := sec_len _ _
  have q1 := isPv_agg hl64
  have q2 := there_zp w7 40
  have q3 := set_zp (w := w7) (N := w7.heap.size) rfl (t := 40) hl64
  obtain ⟨w8, hw8⟩ : ∃ w8, w7.alloc (.cells (cellsB (sec l q)).toArray 40) = w8 := ⟨_, rfl⟩
  obtain ⟨M, hM⟩ : ∃ M, w7.heap.size = M := ⟨_, rfl⟩
  rw [hM] at q2 q3
  have hc8 : w8.cell? ⟨M, r, none⟩ = some (.int .u8 (y.toNat : Int)) := by
    have := range_cells w7 w7.heap.size rfl (cellsB (sec l q)) 40 r (.int .u8 (y.toNat : Int)) (by rw [cellsB, List.getElem?_map, HAT.out]; rfl)
    rw [hw8, hM, Nat.zero_add] at this
    exact this
  have hf8 : w8.frozen? ⟨M, r, none⟩ = false := by
    rw [← hw8, ← hM]
    exact World.frozen?_alloc_at _ _ _ _ rfl
  have hl2 : ((sec l q).set r z).length = 64 := by rw [List.length_set]; exact hl64
  obtain ⟨w9, hw9⟩ : ∃ w9, w8.setCell ⟨M, r, none⟩ (.int .u8 (z.toNat : Int)) = w9 := ⟨_, rfl⟩
  have hw9' : w9 = w7.alloc (.cells (cellsB ((sec l q).set r z)).toArray 40) := by
    rw [← hw9, ← hw8, ← hM, World.setCell_alloc_at _ _ _ _ _ rfl]
    congr 2
    simp [cellsB, List.map_set, cell]
  have p9 := isPg_new w7 w7.heap.size rfl 40 hl2
  rw [← hw9', hM] at p9
  obtain ⟨p91, p92⟩ := p9
  have q9 := isPv_agg hl2
  have hb9 : Below w7.heap.size w7 w9 := by rw [hw9']; exact (Below.refl _ _).alloc (Nat.le_refl _) _
  have HS9 := Lib.hid (HS7.out.keep hb9)
  have HR9 := Lib.hid (HR7.out.below hb9)
  have hr64' : r < 64 := HN.out.2.2.2.2.1
  clear hs7 hb7 hb9 hw9' HS6 HR6
  go_wp2_with fail
  refine (ses_write HS9.out HBT.out _ _ hl2 (by rw [HS1.out]; exact HK2.out)).mono ?_
  rintro e w10 ⟨rfl, F10, hs10, hd10⟩
  rw [HRE.out, show errV 0 = .nilIface from rfl]
  rw [HD2.out] at hs10
  have r10 := HR9.out.of (hd10.block HR9.out.lt HF4.out).1
  have HS10 := Lib.hid hs10
  have e0 := r10.c0
  have e1 := r10.c1
  have e2 := r10.c2
  clear hs10 hd10 r10 HS9 HR9 hw9 hw8 hM hc8 hf8 p91 p92 q1 q2 q3 q9 hl2 hl64
  go_wp2_with fail
  refine (ses_get HS10.out HDN2.out.1 (k : Int) s.size (adl l) HN.out.1 HN.out.2.1 HK0.out (by rw [HNP.out, HDN2.out.2]; exact HK1.out)).mono ?_
  rintro e w11 ⟨rfl, hs11, _⟩
  rw [HG2.out]
  have HS11 := Lib.hid hs11
  clear hs11 HS10 e0 e1 e2
  by_cases hc : c = 0
  · have hcz : ((c.toNat : Int) == 0) = true := by rw [hc]; rfl
    rw [HYZ.out hc, if_pos rfl, if_pos rfl, show bs l = s by rw [← HLS.out, bs_self], show errV 0 = .nilIface from rfl]
    clear hc
    go_wp2_with fail
    refine (codeZ _).mono ?_
    rintro e w12 ⟨rfl, rfl⟩
    go_wp2
    go_ret
    exact ⟨by simp, HS11.out.below⟩
  · have hcz : ((c.toNat : Int) == 0) = false := by
      rw [beq_eq_false_iff_ne]
      intro e
      exact hc (UInt8.toNat_inj.1 (by simpa using e))
    have hcn : ((c.toNat : Int) != 0) = true := by rw [bne, hcz]; rfl
    have hne : ¬ adl (l.set x z) = adl l := fun e => hc (HADL.out ▸ e)
    rw [if_neg hne, if_neg hne]
    rw [show errV 12 = .iface 57 (.int .i64 12) from rfl]
    clear hc hne
    go_wp2_with fail
    refine (codeZ _).mono ?_
    rintro e w12 ⟨rfl, rfl⟩
    go_wp2_with fail
    refine (code_no 12 _ HS11.out.et).mono ?_
    rintro e w12 ⟨rfl, hb12⟩
    have HS12 := Lib.hid (HS11.out.keep hb12)
    clear hb12
    go_wp2
    go_ret
    exact ⟨by simp, HS12.out.below⟩
theorem back_any (s : ByteArray) (a ch b : Int) (W : World) (ha : 0 ≤ a ∧ a ≤ 65535) (hch : 0 ≤ ch ∧ ch ≤ 65535) (hb : 0 ≤ b ∧ b ≤ 255) (hg : EtLaid W) :
    Calls Tryd.prog 3 #[.string s, .int .u16 a, .int .u16 ch, .int .u8 b] W fun e w' => e = .returned (.bool true) ∧ Below W.heap.size W w' := by
  by_cases h : 1 ≤ s.size ∧ s.size ≤ 16384
  · have e1 : a = (a.toNat : Int) := by omega
    have e2 : ch = (ch.toNat : Int) := by omega
    have e3 : b = ((UInt8.ofNat b.toNat).toNat : Int) := by
      have : (UInt8.ofNat b.toNat).toNat = b.toNat := by simp; omega
      omega
    rw [e1, e2, e3]
    exact back_good s a.toNat ch.toNat (by omega) (by omega) (UInt8.ofNat b.toNat) h.1 h.2 W hg
  · exact back_long s _ _ _ (by omega) W
end Go.Proofs.YtpimclhdimcioaaDoor
