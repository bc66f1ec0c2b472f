/-
  Contracts of layer.Lay, Find, Below and checked. Conditions: the list lies in memory, has at most 1000 entries, texts of at most 100000 bytes.
  A slice of slices of entries ([][]api.Entry) in memory, told by a list of lists. No condition.
  Contracts of slices.Grow of nil and of slices.Concat, of lists of entries. Conditions: the lists lie in memory, have at most 2000 entries in all.
  The contract of layer.Drop. Conditions: the list lies in memory, has at most 1000 entries, texts of at most 100000 bytes.
-/
import Derived.Test.YtflomllfehoedaaDoorPk5
import Derived.Lib.AppendZerosOnto
import Derived.Lib.Walk
import Derived.Deep.LoopGhost
import Derived.Lib.Hide
import Derived.IntWalk
import Derived.Deep.RegionHeld3
namespace Go.Proofs.YtflomllfehoedaaDoor
open Go.RowKit

theorem er_no (w : World) (n : Int) (h : n ≠ 0) : Er w n (.iface 52 (.int .i64 n)) := .inr ⟨h, isErr_no _ _⟩
theorem ensB_take {l : List Ent} {k : Nat} (hk : k < l.length) : ensB (l.take (k + 1)) = ensB (l.take k) ++ enB l[k] := by
  rw [take_get l k hk]
  unfold ensB
  rw [List.flatMap_append]
  simp
set_option maxRecDepth 10000 in
set_option maxHeartbeats 4000000 in
theorem lay9 (l : List Ent) (a : Option Addr) (cap : Nat) (w : World) (h : Ents w a cap l) (hs : Sm l) : Calls Tryd.prog 11 #[.slice a l.length cap] w fun e w' => ∃ er, e = .returned (.tuple #[.string (lyV l).2, er]) ∧ Er w' (lyV l).1 er ∧ Below w.heap.size w w' := by
  have HC := Lib.hid (right9 l a cap w h hs)
  have HE := Lib.hid h
  clear h hs
  by_cases hr : RightL l
  · rw [decide_eq_true hr] at HC
    have HV := Lib.hid (show lyV l = (0, layL l) from if_pos hr)
    have HL := Lib.hid hr.1
    have HRE := Lib.hid hr.2.1
    clear hr
    go_enter Tryd.func11, Tryd.ntmps11
    go_wp2_with fail
    refine (HC.out).mono ?_
    rintro e w1 ⟨rfl, hb⟩
    have HB1 := Lib.hid hb
    clear hb
    go_wp2_with fail
    refine (num_any l.length (by have := HL.out; omega) _).mono ?_
    rintro e w2 ⟨rfl, hb⟩
    have HB2 := Lib.hid (HB1.out.trans (hb.mono HB1.out.size))
    clear hb
    go_wp2
    go_loopg [4, 18] l.length (fun g s i wx => ∃ (k : Nat) (t : ByteArray), s = .string t ∧ i = .int .i64 (k : Int) ∧ k + g = l.length ∧ Hid (t.data.toList = dg l.length ++ ensB (l.take k) ∧ t.size ≤ 9 + 337 * k) ∧ Hid (Below w.heap.size w wx))
    case atStart =>
      refine ⟨0, numB l.length, rfl, rfl, by omega, ⟨by rw [numB_list]; simp [ensB], ?_⟩, HB2.out⟩
      have := numB_size_nine (n := l.length) (by have := HL.out; omega)
      omega
    case round =>
      obtain ⟨k, t, rfl, rfl, hk, HI, HB⟩ := hrel
      have hw : IntKind.i64.wrap ((k : Int) + 1) = (k : Int) + 1 := IntWalk.i64_in _ (by have := HL.out; omega)
      by_cases hlt : k < l.length
      · have hlt' : (k : Int) < (l.length : Int) := by omega
        obtain ⟨b, off, rfl, hb, hc⟩ := HE.out.at HB.out hlt
        have HT := Lib.hid (ensB_take hlt)
        have HX := Lib.hid (HRE.out _ (List.getElem_mem hlt))
        obtain ⟨x, hx⟩ : ∃ x, l[k] = x := ⟨_, rfl⟩
        rw [hx] at hc HT HX
        have c0 := hc.c0
        have c1 := hc.c1
        have c2 := hc.c2
        obtain ⟨W, hW⟩ : ∃ W, wr.alloc (.cells #[.string x.1, .int .i64 x.2.1, .string x.2.2] 38) = W := ⟨_, rfl⟩
        obtain ⟨M, hM⟩ : ∃ M, wr.heap.size = M := ⟨_, rfl⟩
        have hbW : Below wr.heap.size wr W := by rw [← hW]; exact (Below.refl _ _).alloc (Nat.le_refl _) _
        have HBW := Lib.hid (HB.out.trans (hbW.mono HB.out.size))
        have HQ := Lib.hid (show EnAt W M x.1 x.2.1 x.2.2 by rw [← hW, ← hM]; exact enAt_new _ _ _ _)
        have q0 := HQ.out.c0
        have q1 := HQ.out.c1
        have q2 := HQ.out.c2
        have HCL := Lib.hid (fun W' => lay8_good x.1 x.2.1.toNat x.2.2 (by
          have h1 := HX.out
          unfold rE at h1
          obtain ⟨_, h2, _⟩ := rightE_parts h1
          rw [Int.toNat_of_nonneg (by omega)]
          exact h1) W')
        rw [Int.toNat_of_nonneg (by
          have h1 := HX.out
          unfold rE at h1
          obtain ⟨_, h2, _⟩ := rightE_parts h1
          omega)] at HCL
        have HLE := Lib.hid (enB_len HX.out)
        have HEB := Lib.hid (show enB x = (layE x.1 x.2.1.toNat x.2.2).data.toList from rfl)
        obtain ⟨u, hu⟩ : ∃ u, layE x.1 x.2.1.toNat x.2.2 = u := ⟨_, rfl⟩
        rw [hu] at HCL HEB
        rw [HEB.out, ← Lib.size_eq] at HLE
        have z1 : ¬ 9223372036854775807 < t.size + u.size := by have := HI.out.2; have := HL.out; have := HLE.out; omega
        clear hc hx hb hbW hu
        go_wp2_with fail
        refine (HCL.out _).mono ?_
        rintro e w4 ⟨rfl, hb⟩
        have HB4 := Lib.hid (HBW.out.trans (hb.mono HBW.out.size))
        clear hb
        go_wp2
        go_roundg (gk - 1)
        case measure => omega
        case rel =>
          refine ⟨k + 1, _, rfl, by simp, by omega, ⟨?_, ?_⟩, HB4.out⟩
          · rw [HT.out, HEB.out, ByteArray.data_append, Array.toList_append, HI.out.1, List.append_assoc]
          · rw [ByteArray.size_append]
            have := HI.out.2
            have := HLE.out
            omega
      · have hlt' : ¬ (k : Int) < (l.length : Int) := by omega
        have HT := Lib.hid (show t.data.toList = layB l by
          rw [HI.out.1, List.take_of_length_le (by omega)]
          rfl)
        have z1 : ¬ 9223372036854775807 < t.size + (four (adl t.data.toList)).size := by rw [four_size]; have := HI.out.2; have := HL.out; omega
        have HBD := Lib.hid (adl_bd t.data.toList)
        obtain ⟨q, hq⟩ : ∃ q, adl t.data.toList = q := ⟨_, rfl⟩
        rw [hq] at HBD z1
        have HQ := Lib.hid hq
        clear hq
        go_wp2_with fail
        refine (sum_any t _ (by unfold maxLen; have := HI.out.2; have := HL.out; omega)).mono ?_
        rintro e w4 ⟨rfl, rfl⟩
        rw [HQ.out]
        go_wp2_with fail
        refine (four_any q _ HBD.out.1 HBD.out.2).mono ?_
        rintro e w5 ⟨rfl, hb⟩
        have HB5 := Lib.hid (HB.out.trans (hb.mono HB.out.size))
        clear hb
        go_wp2
        go_ret2
        refine ⟨.nilIface, ?_, ?_, HB5.out⟩
        · rw [HV.out]
          show Ending.returned (.tuple #[.string (t ++ four q), .nilIface]) = _
          congr 3
          apply congrArg (fun z => [Value.string z, .nilIface])
          apply ba_ext
          rw [ByteArray.data_append, Array.toList_append, layL_list, ← HQ.out, HT.out]
          rfl
        · rw [HV.out]
          exact er_nil _
  · rw [decide_eq_false hr] at HC
    have HV := Lib.hid (show lyV l = (1, ⟨#[]⟩) from if_neg hr)
    clear hr
    go_enter Tryd.func11, Tryd.ntmps11
    go_wp2_with fail
    refine (HC.out).mono ?_
    rintro e w1 ⟨rfl, hb⟩
    have HB1 := Lib.hid hb
    clear hb
    go_wp2
    go_ret2
    exact ⟨.iface 52 (.int .i64 1), by rw [HV.out]; rfl, by rw [HV.out]; exact er_no _ _ (by decide), HB1.out⟩
set_option maxRecDepth 10000 in
set_option maxHeartbeats 4000000 in
theorem find9 (l : List Ent) (a : Option Addr) (cap : Nat) (p : ByteArray) (w : World) (h : Ents w a cap l) (hs : Sm l) : Calls Tryd.prog 17 #[.slice a l.length cap, .string p] w fun e w' => e = .returned (.tuple #[enV (fdV l p.data.toList).1, .bool (fdV l p.data.toList).2]) ∧ Below w.heap.size w w' := by
  obtain ⟨W, hW⟩ : ∃ W, w.alloc (.cells #[.string ⟨#[]⟩, .int .i64 0, .string ⟨#[]⟩] 38) = W := ⟨_, rfl⟩
  obtain ⟨N, hN⟩ : ∃ N, w.heap.size = N := ⟨_, rfl⟩
  have hb0 : Below w.heap.size w W := by rw [← hW]; exact (Below.refl _ _).alloc (Nat.le_refl _) _
  have r0 : EnAt W N ⟨#[]⟩ 0 ⟨#[]⟩ := by rw [← hW, ← hN]; exact enAt_new _ _ _ _
  have HC := Lib.hid (right9 l a cap W (RowN.below h hb0) hs)
  have HE := Lib.hid (RowN.below h hb0)
  have HL := Lib.hid hs.1
  have HB0 := Lib.hid hb0
  have HR0 := Lib.hid r0
  have HNN := Lib.hid (Nat.le_of_eq hN)
  clear h hs hb0 r0
  by_cases hr : RightL l
  · rw [decide_eq_true hr] at HC
    have HA := Lib.hid hr.2.2.1
    have HV := Lib.hid (show fdV l p.data.toList = (match fnd l p.data.toList with
      | some e => (e, true)
      | none => (zE, false)) from if_pos hr)
    clear hr
    go_enter Tryd.func17, Tryd.ntmps17
    go_wp2_with fail
    refine (HC.out).mono ?_
    rintro e w1 ⟨rfl, hb⟩
    have HB1 := Lib.hid (HB0.out.trans (hb.mono HB0.out.size))
    have HE1 := Lib.hid (RowN.below HE.out hb)
    have HR1 := Lib.hid (HR0.out.below hb)
    clear hb
    go_wp2_with fail
    refine (place9 l a cap p _ HE1.out HA.out HL.out).mono ?_
    rintro e w2 ⟨rfl, hb⟩
    have HB2 := Lib.hid (HB1.out.trans (hb.mono HB1.out.size))
    have HE2 := Lib.hid (RowN.below HE1.out hb)
    have HR2 := Lib.hid (HR1.out.below hb)
    clear hb
    have f0 := HR2.out.f0
    have f1 := HR2.out.f1
    have f2 := HR2.out.f2
    have c0 := HR2.out.c0
    have c1 := HR2.out.c1
    have c2 := HR2.out.c2
    cases hf : fnd l p.data.toList with
    | none =>
      rw [hf] at HV
      rw [show (none : Option Ent).isSome = false from rfl]
      clear hf
      go_wp2
      have hld := lv_en (HR2.out.set ⟨#[]⟩ 0 ⟨#[]⟩)
      refine bodyPost_ret (v := .tuple #[entV ⟨#[]⟩ 0 ⟨#[]⟩, .bool false]) ?_ rfl ⟨by rw [HV.out]; rfl, below_en3 HB2.out HNN.out _ _ _⟩
      rw [results_cell8 rfl]
      simp [asAddr, Result.andThen, hld]
    | some x =>
      rw [hf] at HV
      rw [show (some x).isSome = true from rfl]
      obtain ⟨hk, hx, _⟩ := plc_some HA.out hf
      obtain ⟨K, hK⟩ : ∃ K, plc l p.data.toList = K := ⟨_, rfl⟩
      simp only [hK] at hk hx
      rw [hK]
      obtain ⟨b, off, rfl, _, hc⟩ := Ents.at HE2.out (Below.refl _ _) hk
      rw [hx] at hc
      have d0 := hc.c0
      have d1 := hc.c1
      have d2 := hc.c2
      have hk' : (K : Int) < (l.length : Int) := by omega
      clear hf hK hx hc
      go_wp2
      have hld := lv_en (HR2.out.set x.1 x.2.1 x.2.2)
      refine bodyPost_ret (v := .tuple #[entV x.1 x.2.1 x.2.2, .bool true]) ?_ rfl ⟨by rw [HV.out], below_en3 HB2.out HNN.out _ _ _⟩
      rw [results_cell8 rfl]
      simp [asAddr, Result.andThen, hld]
  · rw [decide_eq_false hr] at HC
    have HV := Lib.hid (show fdV l p.data.toList = (zE, false) from if_neg hr)
    clear hr
    go_enter Tryd.func17, Tryd.ntmps17
    go_wp2_with fail
    refine (HC.out).mono ?_
    rintro e w1 ⟨rfl, hb⟩
    have HB1 := Lib.hid (HB0.out.trans (hb.mono HB0.out.size))
    have HR1 := Lib.hid (HR0.out.below hb)
    clear hb
    have f0 := HR1.out.f0
    have f1 := HR1.out.f1
    have f2 := HR1.out.f2
    have c0 := HR1.out.c0
    have c1 := HR1.out.c1
    have c2 := HR1.out.c2
    go_wp2
    have hld := lv_en (HR1.out.set ⟨#[]⟩ 0 ⟨#[]⟩)
    refine bodyPost_ret (v := .tuple #[entV ⟨#[]⟩ 0 ⟨#[]⟩, .bool false]) ?_ rfl ⟨by rw [HV.out]; rfl, below_en3 HB1.out HNN.out _ _ _⟩
    rw [results_cell8 rfl]
    simp [asAddr, Result.andThen, hld]
set_option maxRecDepth 10000 in
set_option maxHeartbeats 1000000 in
theorem checked9 (l : List Ent) (a : Option Addr) (cap : Nat) (w : World) (h : Ents w a cap l) (hs : Sm l) : Calls Tryd.prog 39 #[.slice a l.length cap] w fun e w' => ∃ a' cap' er, e = .returned (.tuple #[.slice a' (if RightL l then l else []).length cap', er]) ∧ Ents w' a' cap' (if RightL l then l else []) ∧ Er w' (if RightL l then 0 else 16) er ∧ Below w.heap.size w w' := by
  have HC := Lib.hid (right9 l a cap w h hs)
  have HE := Lib.hid h
  clear h hs
  by_cases hr : RightL l
  · rw [decide_eq_true hr] at HC
    rw [if_pos hr, if_pos hr]
    clear hr
    go_enter Tryd.func39, Tryd.ntmps39
    go_wp2_with fail
    refine (HC.out).mono ?_
    rintro e w1 ⟨rfl, hb⟩
    have HB1 := Lib.hid hb
    clear hb
    go_wp2
    go_ret2
    exact ⟨a, cap, .nilIface, rfl, RowN.below HE.out HB1.out, er_nil _, HB1.out⟩
  · rw [decide_eq_false hr] at HC
    rw [if_neg hr, if_neg hr]
    clear hr
    go_enter Tryd.func39, Tryd.ntmps39
    go_wp2_with fail
    refine (HC.out).mono ?_
    rintro e w1 ⟨rfl, hb⟩
    have HB1 := Lib.hid hb
    clear hb
    go_wp2
    go_ret2
    exact ⟨none, 0, .iface 52 (.int .i64 16), rfl, ents_nil _ _ _, er_no _ _ (by decide), HB1.out⟩
theorem blw_take {l : List Ent} (p : List UInt8) {k : Nat} (hk : k < l.length) : blw (l.take (k + 1)) p = blw (l.take k) p ++ (if und (pl l[k]) p then [l[k]] else []) := filter_take _ k hk
set_option maxRecDepth 10000 in
set_option maxHeartbeats 4000000 in
theorem below9 (l : List Ent) (a : Option Addr) (cap : Nat) (p : ByteArray) (w : World) (h : Ents w a cap l) (hs : Sm l) (hp : p.size ≤ 100000) : Calls Tryd.prog 21 #[.slice a l.length cap, .string p] w fun e w' => ∃ a' cap', e = .returned (.slice a' (bwV l p.data.toList).length cap') ∧ Ents w' a' cap' (bwV l p.data.toList) ∧ Below w.heap.size w w' := by
  have HC := Lib.hid (right9 l a cap w h hs)
  have HE := Lib.hid h
  have HS := Lib.hid hs
  have HP := Lib.hid hp
  clear h hs hp
  by_cases hr : RightL l
  · rw [decide_eq_true hr] at HC
    have HV := Lib.hid (show bwV l p.data.toList = blw l p.data.toList from if_pos hr)
    have HL := Lib.hid hr.1
    clear hr
    go_enter Tryd.func21, Tryd.ntmps21
    go_wp2_with fail
    refine (HC.out).mono ?_
    rintro e w1 ⟨rfl, hb⟩
    have HB1 := Lib.hid hb
    clear hb
    go_wp2
    go_loopg [5, 13] l.length (fun g v i wx => ∃ (k : Nat), i = .int .i64 (k : Int) ∧ k + g = l.length ∧ Hid (OwnE wx w.heap.size v (blw (l.take k) p.data.toList)) ∧ Hid (Below w.heap.size w wx))
    case atStart => exact ⟨0, rfl, by omega, by simpa [Hid, blw] using ownE_nil w1 w.heap.size, HB1.out⟩
    case round =>
      obtain ⟨k, rfl, hk, HO, HB⟩ := hrel
      have hw : IntKind.i64.wrap ((k : Int) + 1) = (k : Int) + 1 := IntWalk.i64_in _ (by have := HL.out; omega)
      by_cases hlt : k < l.length
      · have hlt' : (k : Int) < (l.length : Int) := by omega
        obtain ⟨b, off, rfl, hb, hc⟩ := HE.out.at HB.out hlt
        have HT := Lib.hid (blw_take p.data.toList hlt)
        have HZ := Lib.hid (HS.out.2 _ (List.getElem_mem hlt))
        obtain ⟨x, hx⟩ : ∃ x, l[k] = x := ⟨_, rfl⟩
        rw [hx] at hc HT HZ
        have c0 := hc.c0
        have c1 := hc.c1
        have c2 := hc.c2
        obtain ⟨W, hW⟩ : ∃ W, wr.alloc (.cells #[.string x.1, .int .i64 x.2.1, .string x.2.2] 38) = W := ⟨_, rfl⟩
        obtain ⟨M, hM⟩ : ∃ M, wr.heap.size = M := ⟨_, rfl⟩
        have hbW : Below wr.heap.size wr W := by rw [← hW]; exact (Below.refl _ _).alloc (Nat.le_refl _) _
        have HBW := Lib.hid (HB.out.trans (hbW.mono HB.out.size))
        have HOW := Lib.hid (HO.out.below hbW)
        have HQ := Lib.hid (show EnAt W M x.1 x.2.1 x.2.2 by rw [← hW, ← hM]; exact enAt_new _ _ _ _)
        have q0 := HQ.out.c0
        have HU := Lib.hid (under_any x.1 p (by have := HZ.out; omega) (by have := HP.out; omega))
        clear hc hx hb hbW
        cases hv : und (pl x) p.data.toList with
        | true =>
          rw [hv] at HU HT
          have HN := Lib.hid (show blw (l.take (k + 1)) p.data.toList = blw (l.take k) p.data.toList ++ [x] from HT.out)
          have HLN := Lib.hid (show (blw (l.take k) p.data.toList).length ≤ 1000 by
            have h1 : (blw (l.take k) p.data.toList).length ≤ (l.take k).length := List.length_filter_le _ _
            rw [List.length_take] at h1
            have := HL.out
            omega)
          clear hv
          go_wp2_with fail
          refine (HU.out _).mono ?_
          rintro e w4 ⟨rfl, hb⟩
          have HB4 := Lib.hid (HBW.out.trans (hb.mono HBW.out.size))
          have HO4 := Lib.hid (HOW.out.below hb)
          have HQ4 := Lib.hid (HQ.out.below hb)
          clear hb q0 c0 c1 c2
          have q0 := HQ4.out.c0
          have q1 := HQ4.out.c1
          have q2 := HQ4.out.c2
          go_wp2_with (at_builtin; refine Stopped.go ?_)
          unfold Stopped
          refine wl_putE (by rfl) _ _ (by rfl) w.heap.size u5 _ x (by rfl) (HO4.out.below ((Below.refl _ _).alloc (Nat.le_refl _) _)) (by have := HB4.out.size; simp; omega) w4.heap.size (by rfl) (enAt_new w4 x.1 x.2.1 x.2.2) HLN.out ?_
          intro v5 w5 ho5 hg5
          have HB5 := Lib.hid ((HB4.out.alloc HB4.out.size (.cells #[.string x.1, .int .i64 x.2.1, .string x.2.2] 38)).grown hg5 (by have := HB4.out.size; simp; omega) (fun k hk => (ownE_blk HO4.out k hk).1))
          have HO5 := Lib.hid ho5
          clear ho5 hg5
          go_wp2
          go_roundg (gk - 1)
          case measure => omega
          case rel => exact ⟨k + 1, by simp, by omega, by rw [HN.out]; exact HO5.out, HB5.out⟩
        | false =>
          rw [hv] at HU HT
          have HN := Lib.hid (show blw (l.take (k + 1)) p.data.toList = blw (l.take k) p.data.toList from HT.out.trans (List.append_nil _))
          clear hv
          go_wp2_with fail
          refine (HU.out _).mono ?_
          rintro e w4 ⟨rfl, hb⟩
          have HB4 := Lib.hid (HBW.out.trans (hb.mono HBW.out.size))
          have HO4 := Lib.hid (HOW.out.below hb)
          clear hb
          go_wp2
          go_roundg (gk - 1)
          case measure => omega
          case rel => exact ⟨k + 1, by simp, by omega, by rw [HN.out]; exact HO4.out, HB4.out⟩
      · have hlt' : ¬ (k : Int) < (l.length : Int) := by omega
        have HO2 := Lib.hid (show OwnE wr w.heap.size u5 (blw l p.data.toList) by have := HO.out; rw [List.take_of_length_le (by omega)] at this; exact this)
        go_wp2
        go_ret
        obtain ⟨a', cap', rfl, h2⟩ := ents_of_own HO2.out
        exact ⟨a', cap', by rw [HV.out]; rfl, by rw [HV.out]; exact h2, HB.out⟩
  · rw [decide_eq_false hr] at HC
    have HV := Lib.hid (show bwV l p.data.toList = [] from if_neg hr)
    clear hr
    go_enter Tryd.func21, Tryd.ntmps21
    go_wp2_with fail
    refine (HC.out).mono ?_
    rintro e w1 ⟨rfl, hb⟩
    have HB1 := Lib.hid hb
    clear hb
    go_wp2
    go_ret
    exact ⟨none, 0, by rw [HV.out]; rfl, by rw [HV.out]; exact ents_nil _ _ _, HB1.out⟩
end Go.Proofs.YtflomllfehoedaaDoor

namespace Go.Proofs.YtflomllfehoedaaDoor
open Go.RowKit

/-- A stack of layers in memory. -/
def Stk (w : World) (a : Option Addr) (cap : Nat) (S : List (List Ent)) : Prop :=
  S.length ≤ cap ∧ (S = [] ∨ ∃ b off, a = some ⟨b, off, none⟩ ∧ b < w.heap.size ∧ ∀ (j : Nat) l, S[j]? = some l → ∃ a' cap', w.cell? ⟨b, off + j, none⟩ = some (.slice a' l.length cap') ∧ Ents w a' cap' l)
theorem stk_empty (w : World) (a : Option Addr) (cap : Nat) : Stk w a cap [] := ⟨by simp, .inl rfl⟩
theorem Stk.below {w w' : World} {a : Option Addr} {cap : Nat} {S : List (List Ent)} (h : Stk w a cap S) (hb : Below w.heap.size w w') : Stk w' a cap S := by
  obtain ⟨h1, h2⟩ := h
  refine ⟨h1, h2.imp_right ?_⟩
  rintro ⟨b, off, rfl, hlt, hc⟩
  refine ⟨b, off, rfl, Nat.lt_of_lt_of_le hlt hb.size, fun j l hl => ?_⟩
  obtain ⟨a', cap', h3, h4⟩ := hc j l hl
  exact ⟨a', cap', (hb.cell (p := ⟨b, off + j, none⟩) hlt).trans h3, RowN.below h4 hb⟩
theorem Stk.at {w w' : World} {a : Option Addr} {cap : Nat} {S : List (List Ent)} (h : Stk w a cap S) (hb : Below w.heap.size w w') {k : Nat} (hk : k < S.length) :
    ∃ b off a' cap', a = some ⟨b, off, none⟩ ∧ w'.cell? ⟨b, off + k, none⟩ = some (.slice a' (S[k]).length cap') ∧ Ents w' a' cap' S[k] := by
  have h := h.below hb
  rcases h.2 with h0 | ⟨b, off, rfl, hlt, hc⟩
  · rw [h0] at hk; simp at hk
  · obtain ⟨a', cap', h3, h4⟩ := hc k S[k] (List.getElem?_eq_getElem hk)
    exact ⟨b, off, a', cap', rfl, h3, h4⟩
theorem Stk.take {w : World} {a : Option Addr} {cap : Nat} {S : List (List Ent)} (h : Stk w a cap S) (n : Nat) : Stk w a cap (S.take n) := by
  obtain ⟨h1, h2⟩ := h
  refine ⟨by rw [List.length_take]; omega, ?_⟩
  rcases h2 with rfl | ⟨b, off, rfl, hlt, hc⟩
  · exact .inl (by simp)
  · refine .inr ⟨b, off, rfl, hlt, fun j l hl => hc j l ?_⟩
    rw [List.getElem?_take] at hl
    split at hl
    · exact hl
    · cases hl
end Go.Proofs.YtflomllfehoedaaDoor

namespace Go.Proofs.YtflomllfehoedaaDoor
open Go.RowKit

/-- Entries at the end of a slice that a call made itself. -/
theorem wl_catE {w : World} {ops : Array Oper} {rest : List Oper} {o : Oper} {a : Act} {Q : Exit → Act → World → Prop} (hgd : o.guard = none) (s x : Operand)
    (ho : o.op = .call { callee := .builtin .append, args := #[s, x], argTypes := #[22, 22] }) (B : Nat) (v : Value) (l m : List Ent) (hs : a.eval s = v) (hown : OwnE w B v l) (hB : B ≤ w.heap.size)
    (aS : Option Addr) (c : Nat) (hx : a.eval x = .slice aS m.length c) (hM : Ents w aS c m) (hl : l.length + m.length ≤ 10000)
    (h : ∀ v' w', OwnE w' B v' (l ++ m) → w.grownBy w' v.ownBlock → wpList Tryd.prog ops Q rest (a.put o.dst v') w') : wpList Tryd.prog ops Q (o :: rest) a w := by
  obtain ⟨ie, hie, hz, hsz, hby⟩ := info_parts infoEn
  have hC : ∀ x ∈ m, (enc x).length = 3 := fun _ _ => rfl
  obtain ⟨h1, h2⟩ := RowN.src hM (by decide) hC
  refine wl_append_any hgd s x 22 ho B 38 ie _ 3 40 Tryd.underlying22 hie hz hsz hby rfl (by decide) v l.length _ hs hown aS m.length c (m.flatMap enc) hx (flat_len m hC) h1 h2 ?_ (by unfold maxLen; omega) (by omega) hB ?_
  · intro u hu
    obtain ⟨y, _, hu⟩ := List.mem_flatMap.1 hu
    rcases List.mem_cons.1 hu with rfl | hu
    · rfl
    rcases List.mem_cons.1 hu with rfl | hu
    · rfl
    rcases List.mem_cons.1 hu with rfl | hu
    · rfl
    cases hu
  · intro v' w' h1 h2
    refine h v' w' ?_ h2
    unfold OwnE
    rw [List.length_append, List.flatMap_append]
    exact h1
set_option maxRecDepth 100000 in
set_option maxHeartbeats 2000000 in
theorem grow9 (n : Nat) (hn : n ≤ 10000) (w : World) : Calls Tryd.prog 63 #[.slice none 0 0, .int .i64 (n : Int)] w fun e w' => ∃ v, e = .returned v ∧ OwnE w' w.heap.size v [] ∧ Below w.heap.size w w' := by
  by_cases h0 : n = 0
  · subst h0
    go_enter Tryd.func63, Tryd.ntmps63
    go_wp2
    go_ret
    exact ⟨_, rfl, ownE_nil _ _, Below.refl _ _⟩
  · obtain ⟨ie, hie, hz, hsz, hby⟩ := info_parts infoEn
    have h1 : ¬ ((n : Int) < 0) := by omega
    have h4 : (0 : Int) < (n : Int) := by omega
    have hrz : ∀ ty, (Builtin.append_ #[22, 3] ty #[.slice none 0 0, .int .i64 (n : Int)]).run Tryd.prog w =
        .ok (.slice (some ⟨w.heap.size, 0, none⟩) n (grownCap w n 0 38)) (w.drew.alloc (.cells (Builtin.zeroCells (entV ⟨#[]⟩ 0 ⟨#[]⟩).cells n ++ Builtin.zeroCells (entV ⟨#[]⟩ 0 ⟨#[]⟩).cells (grownCap w n 0 38 - n)) 38)) := fun ty => by
      have h := Lib.run_append_grow_zeros w 22 3 ty 38 ie _ .i64 .i64 Tryd.underlying22 Tryd.underlying3 hie hz none 0 0 [] (by rw [hsz]; exact run_firstCells_none w.drew 3 0 0 0) n (by omega) (by omega) (by omega) (by omega) (by rw [hby]; omega) (by rw [hby]; exact growslice_fits (by omega) (by omega))
      rw [Nat.zero_add] at h
      simpa using h
    have hGn : n ≤ grownCap w n 0 38 := grownCap_ge w _ _ _
    have hGm : grownCap w n 0 38 ≤ maxLen := grownCap_le_maxLen w n 0 38 (by unfold maxLen; omega)
    obtain ⟨G, hG⟩ : ∃ G, grownCap w n 0 38 = G := ⟨_, rfl⟩
    rw [hG] at hrz hGn hGm
    have HO := Lib.hid (show OwnE (w.drew.alloc (.cells (Builtin.zeroCells (entV ⟨#[]⟩ 0 ⟨#[]⟩).cells n ++ Builtin.zeroCells (entV ⟨#[]⟩ 0 ⟨#[]⟩).cells (G - n)) 38)) w.heap.size (.slice (some ⟨w.heap.size, 0, none⟩) 0 G) [] by
      refine ⟨rfl, .inr ⟨w.heap.size, G, _, rfl, Nat.le_refl _, heap_alloc_new _ _, Nat.zero_le _, hGm, ?_, by simp⟩⟩
      rw [Array.size_append, size_zeroCells, size_zeroCells]
      show n * 3 + (G - n) * 3 = G * 3
      omega)
    have HB := Lib.hid (show Below w.heap.size w (w.drew.alloc (.cells (Builtin.zeroCells (entV ⟨#[]⟩ 0 ⟨#[]⟩).cells n ++ Builtin.zeroCells (entV ⟨#[]⟩ 0 ⟨#[]⟩).cells (G - n)) 38)) from ((Below.refl w.heap.size w).drew).alloc (Nat.le_refl _) _)
    have hG0 : (0 : Int) ≤ (G : Int) := by omega
    have HR := Lib.hid hrz
    clear hie hz hsz hby h0 hG hrz hGm
    go_enter Tryd.func63, Tryd.ntmps63
    go_wp2_with (at_builtin; refine Lib.wpList_append_run _ rfl _ _ _ _ rfl _ _ rfl rfl _ _ (HR.out _) ?_)
    go_ret
    exact ⟨_, rfl, HO.out, HB.out⟩
theorem flatten_take {S : List (List Ent)} {k : Nat} (h : k < S.length) : (S.take (k + 1)).flatten = (S.take k).flatten ++ S[k] := by
  rw [take_get S k h, List.flatten_append]
  simp
theorem flatten_take_le (S : List (List Ent)) (k : Nat) : (S.take k).flatten.length ≤ S.flatten.length := by
  conv => rhs; rw [← List.take_append_drop k S, List.flatten_append, List.length_append]
  omega
set_option maxRecDepth 10000 in
set_option maxHeartbeats 4000000 in
theorem concat9 (S : List (List Ent)) (a : Option Addr) (cap : Nat) (w : World) (h : Stk w a cap S) (hS : S.length ≤ 100) (hl : S.flatten.length ≤ 2000) : Calls Tryd.prog 40 #[.slice a S.length cap] w fun e w' => ∃ a' cap', e = .returned (.slice a' S.flatten.length cap') ∧ Ents w' a' cap' S.flatten ∧ Below w.heap.size w w' := by
  have HE := Lib.hid h
  have HS := Lib.hid hS
  have HL := Lib.hid hl
  obtain ⟨F, hF⟩ : ∃ F, S.flatten = F := ⟨_, rfl⟩
  rw [hF]
  have HF := Lib.hid hF
  clear h hS hl hF
  go_enter Tryd.func40, Tryd.ntmps40
  go_wp2
  go_loopg [3, 11] S.length (fun g z i wx => ∃ (k n : Nat), z = .int .i64 (n : Int) ∧ i = .int .i64 (k : Int) ∧ k + g = S.length ∧ Hid (n = (S.take k).flatten.length) ∧ w = wx)
  case atStart => exact ⟨0, 0, rfl, rfl, by omega, rfl, rfl⟩
  case round =>
    obtain ⟨k, n, rfl, rfl, hk, HI, rfl⟩ := hrel
    have hw : IntKind.i64.wrap ((k : Int) + 1) = (k : Int) + 1 := IntWalk.i64_in _ (by have := HS.out; omega)
    by_cases hlt : k < S.length
    · have hlt' : (k : Int) < (S.length : Int) := by omega
      obtain ⟨b, off, a', cap', rfl, hc, hE⟩ := Stk.at HE.out (Below.refl _ _) hlt
      have HT := Lib.hid (congrArg List.length (flatten_take hlt))
      have HLE := Lib.hid (flatten_take_le S (k + 1))
      obtain ⟨x, hx⟩ : ∃ x, S[k] = x := ⟨_, rfl⟩
      rw [hx] at hc HT
      have HN := Lib.hid (show n + x.length = (S.take (k + 1)).flatten.length by rw [HT.out, List.length_append, HI.out])
      have hw2 : IntKind.i64.wrap ((n : Int) + (x.length : Int)) = (n : Int) + (x.length : Int) := IntWalk.i64_in _ (by have := HN.out; have := HLE.out; have := HL.out; omega)
      have hneg : ¬ (n : Int) + (x.length : Int) < 0 := by omega
      clear hE hx
      go_wp2
      go_roundg (gk - 1)
      case measure => omega
      case rel => exact ⟨k + 1, n + x.length, by simp, by simp, by omega, HN.out, rfl⟩
    · have hlt' : ¬ (k : Int) < (S.length : Int) := by omega
      have HNL := Lib.hid (show n ≤ 10000 by have := HI.out; have := flatten_take_le S k; have := HL.out; omega)
      go_wp2_with fail
      refine (grow9 n HNL.out _).mono ?_
      rintro e w1 ⟨v1, rfl, ho1, hb1⟩
      have HO1 := Lib.hid ho1
      have HB1 := Lib.hid hb1
      clear ho1 hb1
      go_wp2
      go_loopg [6, 27] S.length (fun g v i wx => ∃ (j : Nat), i = .int .i64 (j : Int) ∧ j + g = S.length ∧ Hid (OwnE wx w.heap.size v (S.take j).flatten) ∧ Hid (Below w.heap.size w wx))
      case atStart => exact ⟨0, rfl, by omega, HO1.out, HB1.out⟩
      case round =>
        obtain ⟨j, rfl, hj, HO, HB⟩ := hrel
        have hw : IntKind.i64.wrap ((j : Int) + 1) = (j : Int) + 1 := IntWalk.i64_in _ (by have := HS.out; omega)
        by_cases hlt : j < S.length
        · have hlt' : (j : Int) < (S.length : Int) := by omega
          obtain ⟨b, off, a', cap', rfl, hc, hE⟩ := Stk.at HE.out HB.out hlt
          have HT := Lib.hid (flatten_take hlt)
          have HLE := Lib.hid (flatten_take_le S (j + 1))
          obtain ⟨x, hx⟩ : ∃ x, S[j] = x := ⟨_, rfl⟩
          rw [hx] at hc HT hE
          have HX := Lib.hid hE
          have HLN := Lib.hid (show (S.take j).flatten.length + x.length ≤ 10000 by
            have h1 := congrArg List.length HT.out
            rw [List.length_append] at h1
            have := HLE.out
            have := HL.out
            omega)
          clear hE hx
          go_wp2_with (at_builtin; refine Stopped.go ?_)
          unfold Stopped
          refine wl_catE (by rfl) _ _ (by rfl) w.heap.size u6 _ x (by rfl) HO.out HB.out.size a' cap' (by rfl) HX.out HLN.out ?_
          intro v4 w4 ho4 hg4
          have HB4 := Lib.hid (HB.out.grown hg4 HB.out.size (fun k hk => (ownE_blk HO.out k hk).1))
          have HO4 := Lib.hid ho4
          clear ho4 hg4
          go_wp2
          go_roundg (S.length - (j + 1))
          case measure => omega
          case rel => exact ⟨j + 1, by simp, by omega, by rw [HT.out]; exact HO4.out, HB4.out⟩
        · have hlt' : ¬ (j : Int) < (S.length : Int) := by omega
          have HO2 := Lib.hid (show OwnE wr w.heap.size u6 F by have := HO.out; rw [List.take_of_length_le (by omega), HF.out] at this; exact this)
          go_wp2
          go_ret
          obtain ⟨a', cap', rfl, h2⟩ := ents_of_own HO2.out
          exact ⟨a', cap', rfl, h2, HB.out⟩
end Go.Proofs.YtflomllfehoedaaDoor

namespace Go.Proofs.YtflomllfehoedaaDoor
open Go.RowKit

theorem dpV_none {l : List Ent} {p : List UInt8} (hr : RightL l) (hf : fnd l p = none) : dpV l p = (3, []) := by unfold dpV; rw [if_pos hr, if_pos hf]
theorem dpV_some {l : List Ent} {p : List UInt8} {x : Ent} (hr : RightL l) (hf : fnd l p = some x) : dpV l p = (if RightL (wout l p) then 0 else 16, if RightL (wout l p) then wout l p else []) := by
  unfold dpV
  rw [if_pos hr, if_neg (by rw [hf]; simp)]
  split <;> rfl
theorem stk2_new (w : World) (a1 a2 : Option Addr) (c1 c2 : Nat) (l1 l2 : List Ent) (h1 : Ents w a1 c1 l1) (h2 : Ents w a2 c2 l2) : Stk (w.alloc (.cells #[.slice a1 l1.length c1, .slice a2 l2.length c2] 22)) (some ⟨w.heap.size, 0, none⟩) 2 [l1, l2] := by
  have hb : Below w.heap.size w (w.alloc (.cells #[.slice a1 l1.length c1, .slice a2 l2.length c2] 22)) := (Below.refl _ _).alloc (Nat.le_refl _) _
  refine ⟨Nat.le_refl _, .inr ⟨w.heap.size, 0, rfl, by simp, fun j l hl => ?_⟩⟩
  match j, hl with
  | 0, hl => obtain rfl : l1 = l := by simpa using hl
             exact ⟨a1, c1, (cell_of8 (heap_alloc_new _ _) (j := 0 + 0) rfl).1, RowN.below h1 hb⟩
  | 1, hl => obtain rfl : l2 = l := by simpa using hl
             exact ⟨a2, c2, (cell_of8 (heap_alloc_new _ _) (j := 0 + 1) rfl).1, RowN.below h2 hb⟩
theorem Stk.drew {w : World} {a : Option Addr} {cap : Nat} {S : List (List Ent)} (h : Stk w a cap S) : Stk w.drew a cap S := h.below ((Below.refl _ _).drew)
theorem sm_sub {l m : List Ent} (h : Sm l) (hl : m.length ≤ 1000) (hm : ∀ e ∈ m, e ∈ l) : Sm m := ⟨hl, fun e he => h.2 e (hm e he)⟩
set_option maxRecDepth 10000 in
set_option maxHeartbeats 4000000 in
theorem drop9 (l : List Ent) (a : Option Addr) (cap : Nat) (p : ByteArray) (w : World) (h : Ents w a cap l) (hs : Sm l) : Calls Tryd.prog 18 #[.slice a l.length cap, .string p] w fun e w' => ∃ a' cap' er, e = .returned (.tuple #[.slice a' (dpV l p.data.toList).2.length cap', er]) ∧ Ents w' a' cap' (dpV l p.data.toList).2 ∧ Er w' (dpV l p.data.toList).1 er ∧ Below w.heap.size w w' := by
  have HC := Lib.hid (right9 l a cap w h hs)
  have HE := Lib.hid h
  have HSM := Lib.hid hs
  clear h hs
  by_cases hr : RightL l
  · rw [decide_eq_true hr] at HC
    have HR := Lib.hid hr
    clear hr
    go_enter Tryd.func18, Tryd.ntmps18
    go_wp2_with fail
    refine (HC.out).mono ?_
    rintro e w1 ⟨rfl, hb⟩
    have HB1 := Lib.hid hb
    have HE1 := Lib.hid (RowN.below HE.out hb)
    clear hb
    go_wp2_with fail
    refine (place9 l a cap p _ HE1.out HR.out.2.2.1 HSM.out.1).mono ?_
    rintro e w2 ⟨rfl, hb⟩
    have HB2 := Lib.hid (HB1.out.trans (hb.mono HB1.out.size))
    have HE2 := Lib.hid (RowN.below HE1.out hb)
    clear hb
    cases hf : fnd l p.data.toList with
    | none =>
      have HV := Lib.hid (dpV_none HR.out hf)
      rw [show (none : Option Ent).isSome = false from rfl]
      clear hf
      go_wp2
      go_ret2
      exact ⟨none, 0, .iface 52 (.int .i64 3), by rw [HV.out]; rfl, by rw [HV.out]; exact ents_nil _ _ _, by rw [HV.out]; exact er_no _ _ (by decide), HB2.out⟩
    | some x =>
      have HV := Lib.hid (dpV_some HR.out hf)
      have HWO := Lib.hid (wout_old HR.out.2.2.1 hf)
      rw [show (some x).isSome = true from rfl]
      obtain ⟨hk, _, _⟩ := plc_some HR.out.2.2.1 hf
      obtain ⟨K, hK⟩ : ∃ K, plc l p.data.toList = K := ⟨_, rfl⟩
      rw [hK] at hk HWO ⊢
      obtain ⟨b, off, rfl, _, _⟩ := Ents.at HE2.out (Below.refl _ _) hk
      obtain ⟨o, ho⟩ : ∃ o, wout l p.data.toList = o := ⟨_, rfl⟩
      rw [ho] at HV HWO
      have HOS := Lib.hid (show Sm o from sm_sub HSM.out (by rw [← ho]; have := HSM.out.1; have : (wout l p.data.toList).length ≤ l.length := List.length_filter_le _ _; omega) fun e he => by rw [← ho] at he; exact (List.mem_filter.1 he).1)
      have HOF := Lib.hid (show o = [l.take K, l.drop (K + 1)].flatten by rw [HWO.out]; simp)
      have HCAP := Lib.hid HE2.out.1
      have k1 : (K : Int) ≤ (cap : Int) := by have := HCAP.out; omega
      have k2 : (K : Int) + 1 ≤ (l.length : Int) := by omega
      have k3 : IntKind.i64.wrap ((K : Int) + 1) = (K : Int) + 1 := IntWalk.i64_in _ (by have := HSM.out.1; omega)
      have k4 : (0 : Int) ≤ (K : Int) + 1 := by omega
      have k5 : ((K : Int) + 1).toNat = K + 1 := by omega
      have k6 : (l.length : Int) ≤ (cap : Int) := by have := HCAP.out; omega
      clear hf hK ho
      by_cases hcap : cap = K + 1
      · subst hcap
        have k7 : (K : Int) ≤ (K : Int) + 1 := by omega
        have k8 : (l.length : Int) ≤ (K : Int) + 1 := by have := HCAP.out; omega
        have HCC := Lib.hid (concat9 [l.take K, l.drop (K + 1)] _ _ _ ((stk2_new w2 (some ⟨b, off, none⟩) (some ⟨b, off, none⟩) (K + 1) 0 (l.take K) (l.drop (K + 1)) (Ents.take HE2.out K) (by rw [List.drop_eq_nil_iff.2 HCAP.out]; exact ents_nil _ _ _)).drew) (by simp) (by rw [← HOF.out]; have := HOS.out.1; omega))
        simp only [← HOF.out] at HCC
        rw [List.length_take, List.length_drop, Nat.min_eq_left (show K ≤ l.length by omega)] at HCC
        obtain ⟨r, hr⟩ : ∃ r, (if RightL o then o else []) = r := ⟨_, rfl⟩
        have HRR := Lib.hid hr
        have HA2 : Hid (∀ X a4 cap4, Ents X a4 cap4 o → Below w2.heap.size w2 X → Calls Tryd.prog 39 #[.slice a4 o.length cap4] X fun e w' => ∃ a5 cap5 er, e = .returned (.tuple #[.slice a5 r.length cap5, er]) ∧ Ents w' a5 cap5 r ∧ Er w' (if RightL o then 0 else 16) er ∧ Below w2.heap.size w2 w') := fun X a4 cap4 h4 hX => by
          refine (checked9 o a4 cap4 X h4 HOS.out).mono ?_
          rw [HRR.out]
          rintro e w' ⟨a5, cap5, er, rfl, h5, her, hb⟩
          exact ⟨a5, cap5, er, rfl, h5, her, hX.trans (hb.mono hX.size)⟩
        have HA1 : Hid (Calls Tryd.prog 40 #[.slice (some ⟨w2.heap.size, 0, none⟩) 2 2] (w2.alloc (.cells #[.slice (some ⟨b, off, none⟩) K (K + 1), .slice (some ⟨b, off, none⟩) (l.length - (K + 1)) 0] 22)).drew fun e w' => ∃ a4 cap4, e = .returned (.slice a4 o.length cap4) ∧ Ents w' a4 cap4 o ∧ Below w2.heap.size w2 w') := by
          refine HCC.out.mono ?_
          rintro e w' ⟨a4, cap4, rfl, h4, hb⟩
          exact ⟨a4, cap4, rfl, h4, (show Below w2.heap.size w2 _ from ((Below.refl _ _).alloc (Nat.le_refl _) _).drew).trans (hb.mono (by simp))⟩
        clear hr HCC
        go_wp2_with fail
        go_region_held3 (fun _ => True) (trivial) (first
          | (go_at_call 40; with_reducible refine (HA1.out).mono ?_; rintro e w4 ⟨a4, cap4, rfl, h4, hB4⟩)
          | (go_at_call 39; with_reducible refine (HA2.out _ _ _ h4 hB4).mono ?_; rintro e w5 ⟨a5, cap5, er, rfl, h5, her, hB5⟩))
        all_goals
          have HB5 := Lib.hid (HB2.out.trans (hB5.mono HB2.out.size))
          have HE5 := Lib.hid h5
          have HER := Lib.hid her
          clear h4 hB4 h5 her hB5
          go_wp2
          go_ret2
          exact ⟨a5, cap5, er, by rw [HV.out, HRR.out]; rfl, by rw [HV.out, HRR.out]; exact HE5.out, by rw [HV.out]; exact HER.out, HB5.out⟩
      · have HCC := Lib.hid (concat9 [l.take K, l.drop (K + 1)] _ _ _ ((stk2_new w2 (some ⟨b, off, none⟩) (some ⟨b, off + (K + 1) * 3, none⟩) cap (cap - (K + 1)) (l.take K) (l.drop (K + 1)) (Ents.take HE2.out K) (Ents.drop HE2.out (K + 1) (by omega))).drew) (by simp) (by rw [← HOF.out]; have := HOS.out.1; omega))
        simp only [← HOF.out] at HCC
        rw [List.length_take, List.length_drop, Nat.min_eq_left (show K ≤ l.length by omega)] at HCC
        obtain ⟨r, hr⟩ : ∃ r, (if RightL o then o else []) = r := ⟨_, rfl⟩
        have HRR := Lib.hid hr
        have HA2 : Hid (∀ X a4 cap4, Ents X a4 cap4 o → Below w2.heap.size w2 X → Calls Tryd.prog 39 #[.slice a4 o.length cap4] X fun e w' => ∃ a5 cap5 er, e = .returned (.tuple #[.slice a5 r.length cap5, er]) ∧ Ents w' a5 cap5 r ∧ Er w' (if RightL o then 0 else 16) er ∧ Below w2.heap.size w2 w') := fun X a4 cap4 h4 hX => by
          refine (checked9 o a4 cap4 X h4 HOS.out).mono ?_
          rw [HRR.out]
          rintro e w' ⟨a5, cap5, er, rfl, h5, her, hb⟩
          exact ⟨a5, cap5, er, rfl, h5, her, hX.trans (hb.mono hX.size)⟩
        have HA1 : Hid (Calls Tryd.prog 40 #[.slice (some ⟨w2.heap.size, 0, none⟩) 2 2] (w2.alloc (.cells #[.slice (some ⟨b, off, none⟩) K cap, .slice (some ⟨b, off + (K + 1) * 3, none⟩) (l.length - (K + 1)) (cap - (K + 1))] 22)).drew fun e w' => ∃ a4 cap4, e = .returned (.slice a4 o.length cap4) ∧ Ents w' a4 cap4 o ∧ Below w2.heap.size w2 w') := by
          refine HCC.out.mono ?_
          rintro e w' ⟨a4, cap4, rfl, h4, hb⟩
          exact ⟨a4, cap4, rfl, h4, (show Below w2.heap.size w2 _ from ((Below.refl _ _).alloc (Nat.le_refl _) _).drew).trans (hb.mono (by simp))⟩
        clear hr HCC
        go_wp2_with fail
        go_region_held3 (fun _ => True) (trivial) (first
          | (go_at_call 40; with_reducible refine (HA1.out).mono ?_; rintro e w4 ⟨a4, cap4, rfl, h4, hB4⟩)
          | (go_at_call 39; with_reducible refine (HA2.out _ _ _ h4 hB4).mono ?_; rintro e w5 ⟨a5, cap5, er, rfl, h5, her, hB5⟩))
        all_goals
          have HB5 := Lib.hid (HB2.out.trans (hB5.mono HB2.out.size))
          have HE5 := Lib.hid h5
          have HER := Lib.hid her
          clear h4 hB4 h5 her hB5
          go_wp2
          go_ret2
          exact ⟨a5, cap5, er, by rw [HV.out, HRR.out]; rfl, by rw [HV.out, HRR.out]; exact HE5.out, by rw [HV.out]; exact HER.out, HB5.out⟩
  · rw [decide_eq_false hr] at HC
    have HV := Lib.hid (show dpV l p.data.toList = (1, []) from if_neg hr)
    clear hr
    go_enter Tryd.func18, Tryd.ntmps18
    go_wp2_with fail
    refine (HC.out).mono ?_
    rintro e w1 ⟨rfl, hb⟩
    have HB1 := Lib.hid hb
    clear hb
    go_wp2
    go_ret2
    exact ⟨none, 0, .iface 52 (.int .i64 1), by rw [HV.out]; rfl, by rw [HV.out]; exact ents_nil _ _ _, by rw [HV.out]; exact er_no _ _ (by decide), HB1.out⟩
end Go.Proofs.YtflomllfehoedaaDoor
