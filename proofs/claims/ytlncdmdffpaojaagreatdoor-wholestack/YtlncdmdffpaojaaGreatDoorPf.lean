/-
  The contract of list.met: the names of entries in a directory, from a layer on, each with a stack of its own. Conditions: the stack lies in memory, has at most 100 layers, right ones; the number is a layer's.
  A tree's names in a directory, as texts; name by name. No condition.
  What package list's functions answer of a stack, one statement each (Names13, Empty13, Walk13): the laws of layer 13 are walked over them. Conditions: a stack in memory, of at most 100 layers, each of at most 1000 entries whose texts have at most 100000 bytes; errorType holds error's type.
  The keys of a map keyed by strings that a call has made (MapS), put in order: the one rising list of them. No condition.
  Contracts of maps.All of a map keyed by strings, whatever stands in it, and of the iterator that it hands back: each key comes once, with what stands there. Condition: the map was made by the call.
  A directory of a stack that can be looked at, its names and what lies at each (chapter 13), as list.shown goes through them. No condition.
  A range over an iterator that itself ranges over another one, and keeps memory of its own between its rounds: what such an iterator promises (SeqL), told over the blocks that the caller's rounds may turn (O), and the range over it. No condition.
  strings.TrimSuffix of a path and a slash: the empty text of the root, else the path itself. Condition: the text is a path.
-/
import Derived.Test.YtlncdmdffpaojaaGreatDoorPc
import Derived.Test.YtlncdmdffpaojaaGreatDoorS13Par
import Derived.Test.YtlncdmdffpaojaaGreatDoorPj
import Derived.Test.YtlncdmdffpaojaaGreatDoorPd
import Derived.Lib.LazyBuf
import Derived.Deep.LoopGhost
import Derived.Lib.Hide
import Derived.IntWalk
import Derived.Test.YtlncdmdffpaojaaGreatDoorPb
import Derived.Test.YtlncdmdffpaojaaGreatDoorPa
import Derived.Sort.KeysCollected
import Derived.Sort.Walk0
import Derived.Maps.OwnSet
import Derived.RangeFuncWrites
import Derived.Sort.MapsRangeIn
import Derived.LoopIn
import Derived.LoopNIn
import Derived.TacticsInMore
import Derived.OwnWalkIn
import Derived.RangeFuncCalls
import Derived.RangeFuncBound
import Derived.Test.YtlncdmdffpaojaaGreatDoorProg
import Derived.WalkKit
import Derived.Lib.Strings
namespace Go.Proofs.YtlncdmdffpaojaaGreatDoor
open Go.RowKit Go.Maps

theorem mapS_block {P : Program} {k : TypeId} {w : World} {b n : Nat} {f : List UInt8 → Option Value} (h : MapS P k w b n f) : ∀ cs t, w.heap[b]? ≠ some (.cells cs t (0, 0)) := fun cs t hc => by
  obtain ⟨D, ⟨es, clock, h1, _⟩, _⟩ := h
  rw [h1] at hc
  cases hc
theorem infoEnsM : (Tryz.prog.info? 25).map (fun i => (i.zero, i.size, i.bytes)) = some (some (.slice none 0 0), 1, 24) := by kernel_rfl
theorem make13 (w : World) (D : Nat) (hD : D ≤ 100) : (Instr.makeSlice 22 (.int .i64 (D : Int)) (.int .i64 (D : Int))).run Tryz.prog w = .ok (.slice (some ⟨w.heap.size, 0, none⟩) D D) (w.alloc (.cells (madeCells (Value.cells (.slice none 0 0)) (D * 1)) 25)) := by
  obtain ⟨ie, hie, hz, hsz, hby⟩ := info_parts infoEnsM
  have h := run_make (P := Tryz.prog) w 22 25 ie _ Tryz.underlying22 hie hz .i64 .i64 (D : Int) (D : Int) (by omega) (Int.le_refl _) (by rw [hby]; omega) (by omega)
  rw [hsz] at h
  simpa only [Int.toNat_natCast] using h
theorem zero13 (w : World) : (zeroValue 22).run Tryz.prog w = .ok (.slice none 0 0) w := by kernel_rfl
theorem nil13 (w : World) (a : Option Addr) (n c : Nat) : (binOp .eql 22 (.slice a n c) (.slice none 0 0)).run Tryz.prog w = .ok (.bool a.isNone) w := by
  rw [Go.run_eql_slice_nil w 22 25 a n c Tryz.underlying22]
theorem stk_nil_addr {w : World} {a : Option Addr} {cap : Nat} {S : List (List Ent)} (h : Stk w a cap S) (h0 : S ≠ []) : ∃ b off, a = some ⟨b, off, none⟩ := by
  rcases h.2 with h1 | ⟨b, off, rfl, _⟩
  · exact absurd h1 h0
  · exact ⟨b, off, rfl⟩
/-- Of a stack from a layer on. -/
theorem stk_drop13 {w : World} {b off cap : Nat} {S : List (List Ent)} (h : Stk w (some ⟨b, off, none⟩) cap S) (f : Nat) : Stk w (some ⟨b, off + f, none⟩) (cap - f) (S.drop f) := by
  obtain ⟨h1, h2⟩ := h
  refine ⟨by rw [List.length_drop]; omega, ?_⟩
  rcases h2 with rfl | ⟨b', off', e, hlt, hc⟩
  · exact .inl (by simp)
  · cases e
    refine .inr ⟨b, off + f, rfl, hlt, fun j l hl => ?_⟩
    rw [List.getElem?_drop] at hl
    obtain ⟨a', cap', h3, h4⟩ := hc (f + j) l hl
    exact ⟨a', cap', by rw [Nat.add_assoc]; exact h3, h4⟩
/-- What met answers. -/
def Met13 (w' : World) (B : Nat) (L : List (List Ent)) (p : List UInt8) (e : Ending) : Prop := ∃ m c ns ad, e = .returned (.map (some m)) ∧ MapS Tryz.prog 9 w' m c (setA ad L.length ns) ∧ (∀ x, x ∈ ns ↔ ∃ l ∈ L, ∃ e ∈ l, in13 p x e) ∧ (∀ x ∈ ns, RowAt B w' (ad x) L.length (row13 L p x L.length 0)) ∧ c ≤ 6464 ∧ B ≤ m
attribute [local go_sem] Oper.semAt_some
set_option maxRecDepth 10000 in
set_option maxHeartbeats 8000000 in
theorem met13 (S : List (List Ent)) (a : Option Addr) (cap : Nat) (p : ByteArray) (f : Nat) (w : World) (h : Stk w a cap S) (hl : S.length ≤ 100) (hR : ∀ l ∈ S, RightL l) (hf : f ≤ S.length) (hf0 : S ≠ [] → f < S.length) :
    Calls Tryz.prog 80 #[.slice a S.length cap, .string p, .int .i64 (f : Int)] w fun e w' => Met13 w' w.heap.size (S.drop f) p.data.toList e ∧ Below w.heap.size w w' := by
  have HE := Lib.hid h
  have HL := Lib.hid hl
  have HR := Lib.hid (show ∀ l ∈ S.drop f, RightL l from fun l hl => hR l (List.mem_of_mem_drop hl))
  have hmm := @run_makeMap Tryz.prog
  have hsn := nil13
  obtain ⟨m, hm⟩ : ∃ m, w.heap.size = m := ⟨_, rfl⟩
  obtain ⟨V, hV⟩ : ∃ V, w.alloc (.map #[] 0) = V := ⟨_, rfl⟩
  have hb0 : Below w.heap.size w V := by rw [← hV]; exact (Below.refl _ _).alloc (Nat.le_refl _) _
  have HMV := Lib.hid (show MapS Tryz.prog 9 V m 0 (fun _ => none) by rw [← hV, ← hm]; exact mapS_made Tryz.prog 9 w)
  have HBV := Lib.hid hb0
  have HM := Lib.hid hm
  rw [hm] at HBV ⊢
  clear hb0
  by_cases hS0 : S = []
  · subst hS0
    obtain rfl : f = 0 := by simpa using hf
    clear h hl hR hf hf0
    have HX := Lib.hid (show Met13 V m ([].drop 0) p.data.toList (.returned (.map (some m))) from ⟨m, 0, [], fun _ => 0, rfl, by rw [setA_nil]; exact HMV.out, by simp, by simp, by omega, Nat.le_refl _⟩)
    have kc : (0 : Int) ≤ (cap : Int) := by omega
    go_enter Tryz.func80, Tryz.ntmps80
    go_wp2
    clear hV
    go_loopg [22] 0 (fun g i wx => i = .int .i64 0 ∧ g = 0 ∧ wx = V)
    case atStart => exact ⟨rfl, rfl, rfl⟩
    case round =>
      obtain ⟨rfl, _, rfl⟩ := hrel
      go_wp2
      go_ret
      exact ⟨HX.out, HBV.out⟩
  · obtain ⟨b, off, rfl⟩ := stk_nil_addr HE.out hS0
    have hf := hf0 hS0
    have k0 : (0 : Int) ≤ (f : Int) := by omega
    have k1 : (f : Int) ≤ (S.length : Int) := by omega
    have k2 : (S.length : Int) ≤ (cap : Int) := by have := HE.out.1; omega
    have k3 : (f : Int) ≤ (cap : Int) := by omega
    have k4 : ¬ cap = f := by have := HE.out.1; omega
    have k5 : ¬ (cap : Int) = (f : Int) := by omega
    have HED := Lib.hid (stk_drop13 HE.out f)
    obtain ⟨L, hLd⟩ : ∃ L, S.drop f = L := ⟨_, rfl⟩
    rw [hLd] at HR HED ⊢
    have HDL := Lib.hid (show L.length = S.length - f by rw [← hLd, List.length_drop])
    obtain ⟨D, hD⟩ : ∃ D, S.length - f = D := ⟨_, rfl⟩
    rw [hD] at HDL
    have HDD := Lib.hid (show D ≤ 100 by omega)
    have HLR := Lib.hid (show ∀ i, ∀ e ∈ layN L i, rE e = true from fun i e he => by
      by_cases hi : i < L.length
      · exact (HR.out _ (layN_mem hi)).2.1 e he
      · unfold layN at he
        rw [List.getD_eq_getElem?_getD, List.getElem?_eq_none (by omega)] at he
        cases he)
    have hd0 : (0 : Int) ≤ (D : Int) := by omega
    clear h hl hR hf hf0 hS0 hLd
    go_enter Tryz.func80, Tryz.ntmps80
    go_wp2
    clear hD
    go_loopg [22] D (fun g i wx => ∃ (k : Nat) (ns : List (List UInt8)) (ad : List UInt8 → Nat) (c : Nat), i = .int .i64 (k : Int) ∧ k + g = D ∧ Hid (MapS Tryz.prog 9 wx m c (setA ad D ns)) ∧ Hid (c ≤ k * 64) ∧ Hid (Gath wx m D L p.data.toList k 0 ns ad) ∧ Hid (Below m w wx))
    case atStart => exact ⟨0, [], fun _ => 0, 0, rfl, by omega, by rw [setA_nil]; exact HMV.out, Nat.le_refl _, gath_start _ _ _ _ _ _, HBV.out⟩
    case round =>
      clear hV HMV HBV
      obtain ⟨k, ns, ad, c, rfl, hk, HMX, HC, HG, HB⟩ := hrel
      have hw : IntKind.i64.wrap ((k : Int) + 1) = (k : Int) + 1 := IntWalk.i64_in _ (by have := HDD.out; omega)
      by_cases hlt : k < D
      · have hlt' : (k : Int) < (D : Int) := by omega
        have hkD : k < L.length := by rw [HDL.out]; exact hlt
        have HBW := Lib.hid (show Below w.heap.size w wr by rw [HM.out]; exact HB.out)
        obtain ⟨b9, off9, a', cap', e9, hc1, hE⟩ := HED.out.at (Below.refl _ _) (k := k) hkD
        cases e9
        have hc := (Below.cell HBW.out (p := ⟨b, off + f + k, none⟩) (World.block_lt_of_cell? w _ hc1)).trans hc1
        rw [← layN_get12 hkD] at hc hE
        have HRL := Lib.hid (HR.out _ (layN_mem hkD))
        obtain ⟨l, hl⟩ : ∃ l, layN L k = l := ⟨_, rfl⟩
        have HLK := Lib.hid hl
        rw [hl] at hc hE HRL
        have HEL := Lib.hid hE
        obtain ⟨wb, hwb⟩ : ∃ wb, wb = wr := ⟨_, rfl⟩
        subst hwb
        clear hE hc1 hl
        go_wp2
        go_loopg [29] l.length (fun g i wx => ∃ (j : Nat) (ns : List (List UInt8)) (ad : List UInt8 → Nat) (c : Nat), i = .int .i64 (j : Int) ∧ j + g = l.length ∧ Hid (MapS Tryz.prog 9 wx m c (setA ad D ns)) ∧ Hid (c ≤ k * 64 + j) ∧ Hid (Gath wx m D L p.data.toList k j ns ad) ∧ Hid (Below m w wx))
        case atStart => exact ⟨0, ns, ad, c, rfl, by omega, HMX.out, HC.out, HG.out, HB.out⟩
        case round =>
          clear HMX HC HG HB HBW hc
          obtain ⟨j, ns2, ad2, c2, rfl, hj, HMX2, HC2, HG2, HB2⟩ := hrel
          have HLL := Lib.hid HRL.out.1
          have hw2 : IntKind.i64.wrap ((j : Int) + 1) = (j : Int) + 1 := IntWalk.i64_in _ (by have := HLL.out; omega)
          have HBX := Lib.hid (show Below w.heap.size w wr by rw [HM.out]; exact HB2.out)
          by_cases hjl : j < l.length
          · have hjl' : (j : Int) < (l.length : Int) := by omega
            obtain ⟨b8, off8, e8, _, hcx⟩ := Ents.at HEL.out HBX.out hjl
            subst e8
            have hjl9 : j < (layN L k).length := by rw [HLK.out]; exact hjl
            have hgx : (layN L k)[j] = l[j] := by simp only [HLK.out]
            have HXR := Lib.hid (rE_isP (HRL.out.2.1 _ (List.getElem_mem hjl)))
            obtain ⟨x, hx⟩ : ∃ x, l[j] = x := ⟨_, rfl⟩
            rw [hx] at hcx HXR hgx
            have HGX := Lib.hid hgx
            have HX54 := Lib.hid (show x.1.size ≤ 54 by rw [Lib.size_eq]; exact isP_len HXR.out.1)
            have c0 := hcx.c0
            have c1 := hcx.c1
            have c2' := hcx.c2
            obtain ⟨Ve, Ue, Me, hVe, hMe, hUe, hve, hue, hbe⟩ := en_box3 wr x.1 x.2.1 x.2.2
            have v0 := hve.c0
            have v1 := hve.c1
            have v2 := hve.c2
            have vf0 := hve.f0
            have vf1 := hve.f1
            have vf2 := hve.f2
            have u0 := hue.c0
            have HUE := Lib.hid hue
            have HBE := Lib.hid hbe
            have HME := Lib.hid hMe
            clear hve hue hbe hcx hx hgx
            go_wp2_with fail
            refine (parent13 x.1 HXR.out.1 HXR.out.2 _).mono ?_
            rintro e w5 ⟨d, nb5, rfl, hd, hnb, hb⟩
            have HB5 := Lib.hid (HBE.out.trans (hb.mono HBE.out.size))
            have HUE5 := Lib.hid (HUE.out.below hb)
            have HD5 := Lib.hid hd
            have HN5 := Lib.hid hnb
            clear hb hd hnb v0 v1 v2 vf0 vf1 vf2 u0 hVe hMe hUe c0 c1 c2'
            have u0 := HUE5.out.c0
            have hm5 := HMX2.out.below HB5.out
            have HM5 := Lib.hid hm5
            have HBM5 := Lib.hid (HB2.out.trans (HB5.out.mono (by have := HB2.out.size; have := HM.out; omega)))
            have HG5 := Lib.hid (HG2.out.below HB5.out)
            clear hm5
            by_cases hp : par9 (pl x) = p.data.toList
            · have gp : (d.toList == p.toList) = true := by rw [Lib.toList_data, Lib.toList_data, HD5.out, beq_iff_eq]; exact hp
              have HIN := Lib.hid (show in13 p.data.toList nb5.data.toList ((layN L k)[j]) by rw [HGX.out, HN5.out]; exact ⟨hp, rfl⟩)
              have HNM := Lib.hid (show nm nb5.data.toList = true by rw [HN5.out]; exact (last_parts HXR.out.1 HXR.out.2).2.2.1)
              have HN8 := Lib.hid (show nb5.size ≤ maxLen by have := nm_len HNM.out; rw [Lib.size_eq]; unfold maxLen; omega)
              have HPP := Lib.hid (show isP p.data.toList ∧ (pcs p.data.toList).length < 6 by
                obtain ⟨_, q2, _, q4⟩ := in_nm (HLR.out k _ (List.getElem_mem hjl9)) HIN.out
                exact ⟨q2, q4⟩)
              have HE9 := Lib.hid (show ((⟨#[47]⟩ : ByteArray) ++ nb5, x.2.1, x.2.2) = at1 nb5.data.toList ((layN L k)[j]) by
                rw [HGX.out]
                unfold at1 rn13
                congr 1)
              clear hp
              by_cases hX : nb5.data.toList ∈ ns2
              · have lk5 := (HM5.out.look (t := 137) (e := 22) Tryz.underlying9 Tryz.underlying137 (zero13 _) (i := nb5) HN8.out).1
                rw [setA_in hX, Option.getD_some] at lk5
                have HM7 := Lib.hid (HM5.out.mono (Nat.le_succ c2))
                have HUE7 := Lib.hid HUE5.out
                have HB7 := Lib.hid HBM5.out
                have HX7 := Lib.hid hX
                have u70 := HUE5.out.f0
                obtain ⟨U8, hU8⟩ : ∃ W, w5.setCell ⟨Me, 0, none⟩ (.string ((⟨#[47]⟩ : ByteArray) ++ nb5)) = W := ⟨_, rfl⟩
                have hue8 : EnAt U8 Me ((⟨#[47]⟩ : ByteArray) ++ nb5) x.2.1 x.2.2 := by rw [← hU8]; exact set_of8 HUE7.out 0 _
                have q0 := hue8.c0
                have q1 := hue8.c1
                have q2 := hue8.c2
                have HU8 := Lib.hid hU8
                have HG8 : Gath2 U8 m D L p.data.toList k j nb5.data.toList ns2 ad2 := Gath.two (HG2.out.below (by rw [← hU8]; exact HB5.out.setCell (p := ⟨Me, 0, none⟩) (by have := HME.out; show _ ≤ Me; omega) _)) hX
                have hm8 : MapS Tryz.prog 9 U8 m (c2 + 1) (setA ad2 D ns2) := HM7.out.of_block (by rw [← hU8]; exact Below.heap_setCell w5 ⟨Me, 0, none⟩ _ m (by have := HMX2.out.lt; have := HME.out; show m ≠ Me; omega))
                have lk8 := (hm8.look (t := 137) (e := 22) Tryz.underlying9 Tryz.underlying137 (zero13 _) (i := nb5) HN8.out).1
                rw [setA_in HX7.out, Option.getD_some] at lk8
                obtain ⟨R8, hR8⟩ : ∃ R, ad2 nb5.data.toList = R := ⟨_, rfl⟩
                have h9 := HG8.put HLR.out (by rw [HLK.out]; exact HRL.out.2.2.1) hlt hjl9 HIN.out HE9.out
                have HR9 := Lib.hid (show m < R8 by rw [← hR8]; exact (HG8.rows _ HX7.out).1)
                have hrow := (HG8.rows _ HX7.out).2
                rw [hR8] at lk8 h9 hrow
                dsimp only at h9
                obtain ⟨U9, hU9⟩ : ∃ W, U8.alloc (.cells #[.string ((⟨#[47]⟩ : ByteArray) ++ nb5), .int .i64 x.2.1, .string x.2.2] 34) = W := ⟨_, rfl⟩
                obtain ⟨M9, hM9⟩ : ∃ M, U8.heap.size = M := ⟨_, rfl⟩
                rw [hU9, hM9] at h9
                have hb9 : Below U8.heap.size U8 U9 := by rw [← hU9]; exact (Below.refl _ _).alloc (Nat.le_refl _) _
                obtain ⟨cv9, cc9, cf9⟩ := (hrow.below hb9).cell hlt
                have HG9 := Lib.hid h9
                have HM8 := Lib.hid hm8
                have HROW := Lib.hid hrow
                have HB9 := Lib.hid hb9
                clear h9 hm8 hrow hb9 hue8 HG8 hX HM5 HG5 HBM5
                have zc : ¬ 9223372036854775807 < 1 + nb5.size := by have := nm_len HNM.out; rw [Lib.size_eq]; omega
                go_wp2
                go_roundg (gk - 1)
                case measure => omega
                case rel =>
                  refine ⟨j + 1, ns2, ad2, c2 + 1, by simp, by omega, ?_, (show _ ≤ _ by have := HC2.out; omega), ?_, ?_⟩
                  · refine (HM8.out.below HB9.out).of_block (Below.heap_setCell U9 ⟨R8, k, none⟩ _ m ?_)
                    have := HR9.out
                    show m ≠ R8
                    omega
                  · exact HG9.out
                  · have h1 : Below m w5 U8 := by rw [← HU8.out]; exact (Below.refl _ _).setCell (p := ⟨Me, 0, none⟩) (by have := HMX2.out.lt; have := HME.out; show m ≤ Me; omega) _
                    have h2 := HB7.out.trans h1
                    have h3 := h2.trans (HB9.out.mono (by have := HM8.out.lt; omega))
                    exact h3.setCell (p := ⟨R8, k, none⟩) (by have := HR9.out; show m ≤ R8; omega) _
              · have lk5 := (HM5.out.look (t := 137) (e := 22) Tryz.underlying9 Tryz.underlying137 (zero13 _) (i := nb5) HN8.out).1
                rw [setA_out hX, Option.getD_none] at lk5
                have hmk := make13 w5 D HDD.out
                obtain ⟨W6, hW6⟩ : ∃ W, w5.alloc (.cells (madeCells (Value.cells (.slice none 0 0)) (D * 1)) 25) = W := ⟨_, rfl⟩
                obtain ⟨B6, hB6⟩ : ∃ B, w5.heap.size = B := ⟨_, rfl⟩
                rw [hW6, hB6] at hmk
                have hb6 : Below w5.heap.size w5 W6 := by rw [← hW6]; exact (Below.refl _ _).alloc (Nat.le_refl _) _
                have hN6 : W6.heap[B6]? = some (.cells (madeCells (Value.cells (.slice none 0 0)) (D * 1)) 25 (0, 0)) := by rw [← hW6, ← hB6]; exact heap_alloc_new _ _
                obtain ⟨w7, hput, hm7, hg7⟩ := (HM5.out.below hb6).put (t := 137) (e := 22) Tryz.underlying9 Tryz.underlying137 (by have := HC2.out; have := HDD.out; have := HLL.out; unfold maxLen; omega) (i := nb5) HN8.out (.slice (some ⟨B6, 0, none⟩) D D)
                have z1 : m < w5.heap.size := HM5.out.lt
                have z2 : W6.heap.size = B6 + 1 := by rw [← hW6, ← hB6]; simp
                have z3 := hg7.size
                obtain ⟨ad3, ha3⟩ : ∃ ad3, ad3 = fun y => if y = nb5.data.toList then B6 else ad2 y := ⟨_, rfl⟩
                obtain ⟨ns3, hn3⟩ : ∃ ns3, ns3 = nb5.data.toList :: ns2 := ⟨_, rfl⟩
                have HM7 := Lib.hid (show MapS Tryz.prog 9 w7 m (c2 + 1) (setA ad3 D ns3) by rw [hn3, ha3, ← setA_new hX]; exact hm7)
                have hBW6 : Below w.heap.size w W6 := by
                  have h1 : Below w.heap.size w w5 := by rw [HM.out]; exact HBM5.out
                  exact h1.trans (hb6.mono h1.size)
                have HUE7 := Lib.hid (show EnAt w7 Me x.1 x.2.1 x.2.2 from (hg7.block Me (by have := (HUE5.out.below hb6).lt; omega) (fun e => by
                  have h1 := Option.some.inj e
                  have h2 := mapS_block HM5.out
                  rw [← h1] at h2
                  exact h2 _ _ HUE5.out)).trans (HUE5.out.below hb6))
                have HB7 := Lib.hid (show Below m w w7 by
                  have h1 : Below m w W6 := by rw [← HM.out]; exact hBW6
                  exact h1.grown hg7 (by have := hBW6.size; have := HM.out; omega) fun q hq => by cases hq; exact Nat.le_refl _)
                have HX7 := Lib.hid (show nb5.data.toList ∈ ns3 by rw [hn3]; simp)
                have u70 := HUE7.out.f0
                have u71 := HUE7.out.c0
                obtain ⟨U8, hU8⟩ : ∃ W, w7.setCell ⟨Me, 0, none⟩ (.string ((⟨#[47]⟩ : ByteArray) ++ nb5)) = W := ⟨_, rfl⟩
                have hue8 : EnAt U8 Me ((⟨#[47]⟩ : ByteArray) ++ nb5) x.2.1 x.2.2 := by rw [← hU8]; exact set_of8 HUE7.out 0 _
                have q0 := hue8.c0
                have q1 := hue8.c1
                have q2 := hue8.c2
                have HU8 := Lib.hid hU8
                have HG8 : Gath2 U8 m D L p.data.toList k j nb5.data.toList ns3 ad3 := by
                  rw [hn3, ha3]
                  refine HG2.out.new (m := m) (mapS_block HMX2.out) (fun q hq hne => ?_) hX HNM.out HPP.out.1 HPP.out.2 (by have := HB5.out.size; omega) (by omega) ?_
                  · rw [← hU8, Below.heap_setCell w7 ⟨Me, 0, none⟩ _ q (by have := HME.out; show q ≠ Me; omega), hg7.block q (by have := HB5.out.size; omega) (fun e => hne (Option.some.inj e)), hb6.block q (by have := HB5.out.size; omega), HB5.out.block q hq]
                  · rw [← hU8, Below.heap_setCell w7 ⟨Me, 0, none⟩ _ B6 (by have := HUE5.out.lt; show B6 ≠ Me; omega), hg7.block B6 (by omega) (fun e => by have := Option.some.inj e; omega)]
                    exact hN6
                have hm8 : MapS Tryz.prog 9 U8 m (c2 + 1) (setA ad3 D ns3) := HM7.out.of_block (by rw [← hU8]; exact Below.heap_setCell w7 ⟨Me, 0, none⟩ _ m (by have := HMX2.out.lt; have := HME.out; show m ≠ Me; omega))
                have lk8 := (hm8.look (t := 137) (e := 22) Tryz.underlying9 Tryz.underlying137 (zero13 _) (i := nb5) HN8.out).1
                rw [setA_in HX7.out, Option.getD_some] at lk8
                obtain ⟨R8, hR8⟩ : ∃ R, ad3 nb5.data.toList = R := ⟨_, rfl⟩
                have h9 := HG8.put HLR.out (by rw [HLK.out]; exact HRL.out.2.2.1) hlt hjl9 HIN.out HE9.out
                have HR9 := Lib.hid (show m < R8 by rw [← hR8]; exact (HG8.rows _ HX7.out).1)
                have hrow := (HG8.rows _ HX7.out).2
                rw [hR8] at lk8 h9 hrow
                dsimp only at h9
                obtain ⟨U9, hU9⟩ : ∃ W, U8.alloc (.cells #[.string ((⟨#[47]⟩ : ByteArray) ++ nb5), .int .i64 x.2.1, .string x.2.2] 34) = W := ⟨_, rfl⟩
                obtain ⟨M9, hM9⟩ : ∃ M, U8.heap.size = M := ⟨_, rfl⟩
                rw [hU9, hM9] at h9
                have hb9 : Below U8.heap.size U8 U9 := by rw [← hU9]; exact (Below.refl _ _).alloc (Nat.le_refl _) _
                obtain ⟨cv9, cc9, cf9⟩ := (hrow.below hb9).cell hlt
                have HG9 := Lib.hid h9
                have HM8 := Lib.hid hm8
                have HROW := Lib.hid hrow
                have HB9 := Lib.hid hb9
                clear h9 hm8 hrow hb9 hue8 HG8 ha3 hn3 hX HM5 HG5 HBM5 hm7 hg7 hb6 hN6 z1 z2 z3 hBW6
                have zc : ¬ 9223372036854775807 < 1 + nb5.size := by have := nm_len HNM.out; rw [Lib.size_eq]; omega
                go_wp2
                go_roundg (gk - 1)
                case measure => omega
                case rel =>
                  refine ⟨j + 1, ns3, ad3, c2 + 1, by simp, by omega, ?_, (show _ ≤ _ by have := HC2.out; omega), ?_, ?_⟩
                  · refine (HM8.out.below HB9.out).of_block (Below.heap_setCell U9 ⟨R8, k, none⟩ _ m ?_)
                    have := HR9.out
                    show m ≠ R8
                    omega
                  · exact HG9.out
                  · have h1 : Below m w7 U8 := by rw [← HU8.out]; exact (Below.refl _ _).setCell (p := ⟨Me, 0, none⟩) (by have := HMX2.out.lt; have := HME.out; show m ≤ Me; omega) _
                    have h2 := HB7.out.trans h1
                    have h3 := h2.trans (HB9.out.mono (by have := HM8.out.lt; omega))
                    exact h3.setCell (p := ⟨R8, k, none⟩) (by have := HR9.out; show m ≤ R8; omega) _
            · have gp : (d.toList == p.toList) = false := by rw [Lib.toList_data, Lib.toList_data, HD5.out, beq_eq_false_iff_ne]; exact hp
              have HG7 := Lib.hid (HG5.out.other HLR.out hjl9 (by rw [HGX.out]; exact hp))
              clear hp u0
              go_wp2
              go_roundg (gk - 1)
              case measure => omega
              case rel => exact ⟨j + 1, ns2, ad2, c2, by simp, by omega, HM5.out, (show _ ≤ _ by have := HC2.out; omega), HG7.out, HBM5.out⟩
          · have hjl' : ¬ (j : Int) < (l.length : Int) := by omega
            obtain rfl : j = l.length := by omega
            have HG3 := Lib.hid (show Gath wr m D L p.data.toList (k + 1) 0 ns2 ad2 from Gath.layer (by rw [HLK.out]; exact HG2.out))
            go_wp2
            go_roundg (D - (k + 1))
            case measure => omega
            case rel => exact ⟨k + 1, ns2, ad2, c2, by simp, by omega, HMX2.out, (show _ ≤ _ by have := HC2.out; have := HLL.out; omega), HG3.out, HB2.out⟩
      · have hlt' : ¬ (k : Int) < (D : Int) := by omega
        obtain rfl : k = D := by omega
        have HF := Lib.hid (show (∀ x, x ∈ ns ↔ ∃ l ∈ L, ∃ e ∈ l, in13 p.data.toList x e) ∧ ∀ x ∈ ns, RowAt m wr (ad x) L.length (row13 L p.data.toList x L.length 0) by
          have hG := HG.out
          have hLD := HDL.out
          subst hLD
          exact hG.done)
        go_wp2
        go_ret
        exact ⟨⟨m, c, ns, ad, rfl, by rw [HDL.out]; exact HMX.out, HF.out.1, HF.out.2, by have := HC.out; have := HDD.out; omega, Nat.le_refl _⟩, HB.out⟩
end Go.Proofs.YtlncdmdffpaojaaGreatDoor

namespace Go.Proofs.YtlncdmdffpaojaaGreatDoor
open Go.RowKit

theorem tr_takeC13 {l : List Ent} (h : TR l) (n : Nat) : TR (l.take n) := ⟨rl_take h.1 n, fun x hx => h.2 x (List.mem_of_mem_take hx)⟩
/-- The names, as texts. -/
def nmB (t : List Ent) (p : List UInt8) : List ByteArray := (nmsV t p).map bs
theorem nmB_nil (p : List UInt8) : nmB [] p = [] := rfl
theorem nmB_take (t : List Ent) (p : List UInt8) {k : Nat} (hk : k < t.length) : nmB (t.take (k + 1)) p = if par9 (pl t[k]) = p then nmB (t.take k) p ++ [bs (lastN (pl t[k]))] else nmB (t.take k) p := by
  unfold nmB nmsV
  rw [take_get t k hk, List.filter_append]
  by_cases h : par9 (pl t[k]) = p
  · rw [if_pos h]
    simp [h]
  · rw [if_neg h]
    simp [h]
theorem nmB_len (t : List Ent) (p : List UInt8) : (nmB t p).length ≤ t.length := by
  unfold nmB nmsV
  rw [List.length_map, List.length_map]
  exact List.length_filter_le _ _
theorem nmB_size {t : List Ent} (ht : TR t) {p : List UInt8} : ∀ x ∈ nmB t p, x.size ≤ 8 := fun x hx => by
  unfold nmB at hx
  obtain ⟨n, hn, rfl⟩ := List.mem_map.1 hx
  obtain ⟨e, he, _, rfl⟩ := mem_nms.1 hn
  obtain ⟨p1, p2⟩ := rE_isP (ht.1.1 e he)
  rw [bs_size]
  exact nm_len (last_parts p1 p2).2.2.1
/-- What stands ahead is less. -/
theorem nmB_less {t : List Ent} (ht : TR t) (p : List UInt8) {k : Nat} (hk : k < t.length) (h : par9 (pl t[k]) = p) : ∀ x ∈ nmB (t.take k) p, lt8 x.data.toList (lastN (pl t[k])) = true := fun x hx => by
  have ha := nms_asc (tr_takeC13 ht (k + 1)) p
  unfold nmB at hx
  obtain ⟨n, hn, rfl⟩ := List.mem_map.1 hx
  rw [bs_list]
  have e : nmsV (t.take (k + 1)) p = nmsV (t.take k) p ++ [lastN (pl t[k])] := by
    unfold nmsV
    rw [take_get t k hk, List.filter_append]
    simp [h]
  rw [e] at ha
  exact (List.pairwise_append.1 ha).2.2 n hn _ (by simp)
end Go.Proofs.YtlncdmdffpaojaaGreatDoor

namespace Go.Proofs.YtlncdmdffpaojaaGreatDoor
open Go.RowKit

/-- Names: the error, the names. -/
def naV (S : List (List Ent)) (p : List UInt8) : Int × List ByteArray := if (drV S p).1 ≠ 0 then ((drV S p).1, []) else (0, nmB (stk S) p)
/-- Walk. -/
def wkV (S : List (List Ent)) : List Ent := if LkOK S then stk S else []
def Walk13 : Prop := ∀ S a cap w, EtLaid w → Stk w a cap S → S.length ≤ 100 → (∀ l ∈ S, Sm l) → Calls Tryz.prog 13 #[.slice a S.length cap] w fun e w' => ∃ a' cap', e = .returned (.slice a' (wkV S).length cap') ∧ Ents w' a' cap' (wkV S) ∧ Below w.heap.size w w'
theorem wkV_tree (S : List (List Ent)) : TR (wkV S) ∧ (wkV S).length ≤ 576 := by
  unfold wkV
  split
  · rename_i h
    have h1 := stk_len h.2
    exact ⟨tr_stk h.2, by have := h.1; omega⟩
  · exact ⟨tr_nil, by simp⟩
theorem right_tree13 {t : List Ent} (ht : TR t) (h : t.length ≤ 64) : RightL t := ⟨h, ht.1⟩
theorem wk_one {t : List Ent} (ht : TR t) (h : t.length ≤ 64) : wkV [t] = t ∧ wkV [t, t] = t := by
  have hr := right_tree13 ht h
  have h1 : LkOK [t] := ⟨by simp, fun l hl => by obtain rfl : l = t := by simpa using hl
                                                 exact hr⟩
  have h2 : LkOK [t, t] := ⟨by simp, fun l hl => by obtain rfl : l = t := by simpa using hl
                                                    exact hr⟩
  unfold wkV
  rw [if_pos h1, if_pos h2]
  exact ⟨stk_one ht, stk_two ht⟩
end Go.Proofs.YtlncdmdffpaojaaGreatDoor

namespace Go.Proofs.YtlncdmdffpaojaaGreatDoor
open Go.RowKit Go.Maps

theorem mapS_keysA {P : Program} {k : TypeId} {w : World} {b n : Nat} {f : List UInt8 → Option Value} (h : MapS P k w b n f) (hk : P.underlying k = some .string) (hf : ∀ x, (f x).isSome = true → x.length ≤ maxLen) :
    ∃ D : DataW Value, w.ownsMap P k anyElemS b n D ∧ (∀ i : ByteArray, i.size ≤ maxLen → ∀ zd, D.atKey (.string i.data.toList) zd = (match f i.data.toList with | some v => .held v | none => zd)) ∧ Maps.size D ≤ n ∧ (strKeys D).Nodup ∧ ∀ x, x ∈ strKeys D ↔ (f x).isSome = true := by
  obtain ⟨D, ho, hat⟩ := h
  have hle := strKeys_le ho hk
  obtain ⟨es, hD, hpw, _⟩ := ho.entries (string_keyed hk)
  obtain ⟨es', hD', hko⟩ := ho.keysOf
  obtain rfl : es = es' := by rw [hD] at hD'; simpa using hD'
  have hstr : ∀ p ∈ es, ∃ x, p.1 = .string x := fun p hp => by
    obtain ⟨v, hv⟩ := hko p hp
    obtain ⟨x, _, hx, _⟩ := Maps.keyOf_str hk hv
    exact ⟨x, hx⟩
  have hmem : ∀ x, x ∈ strKeys D ↔ has D (.string x) = true := fun x => by
    subst hD
    rw [has_eq, List.any_eq_true]
    show x ∈ es.map (fun p => strOf p.1) ↔ _
    rw [List.mem_map]
    constructor
    · rintro ⟨p, hp, rfl⟩
      obtain ⟨a, ha⟩ := hstr p hp
      exact ⟨p, hp, by rw [ha]; simp [Lit.sameKey, strOf]⟩
    · rintro ⟨p, hp, hs⟩
      obtain ⟨a, ha⟩ := hstr p hp
      rw [ha] at hs
      exact ⟨p, hp, by rw [ha]; simpa [Lit.sameKey, strOf] using hs⟩
  refine ⟨D, ho, hat, ?_, ?_, fun x => ?_⟩
  · obtain ⟨es9, clock, _, _, hs, hD9⟩ := ho
    rw [hD9, size_eq]
    have : ∀ l : List (Lit × DataW Value), (l.foldr DataW.insert []).length = l.length := fun l => by
      induction l with
      | nil => rfl
      | cons y r ih => rw [List.foldr_cons, length_insert, ih, List.length_cons]
    rw [this, List.length_map]
    simpa using hs
  · subst hD
    show (es.map fun p => strOf p.1).Nodup
    refine List.pairwise_map.2 (hpw.imp_of_mem fun {p q} hp' hq' hne e => hne ?_)
    obtain ⟨a, ha⟩ := hstr p hp'
    obtain ⟨c, hc⟩ := hstr q hq'
    rw [ha, hc] at e ⊢
    exact congrArg _ e
  · rw [hmem x]
    constructor
    · intro hx
      have hl := hle x ((hmem x).2 hx)
      have ha := hat ⟨x.toArray⟩ (by show x.toArray.size ≤ _; simpa using hl)
      rw [show (⟨x.toArray⟩ : ByteArray).data.toList = x by simp] at ha
      cases hv : f x with
      | some v => rfl
      | none =>
        rw [hv] at ha
        rw [has_false_of_atKey ha] at hx
        cases hx
    · intro hx
      have hl := hf x hx
      have ha := hat ⟨x.toArray⟩ (by show x.toArray.size ≤ _; simpa using hl)
      rw [show (⟨x.toArray⟩ : ByteArray).data.toList = x by simp] at ha
      cases hv : f x with
      | none => rw [hv] at hx; cases hx
      | some v =>
        rw [hv] at ha
        exact has_true_of_atKey ha
theorem mapS_keys {P : Program} {k : TypeId} {w : World} {b n : Nat} {f : List UInt8 → Option Value} (h : MapS P k w b n f) (hk : P.underlying k = some .string) (hf : ∀ x, (f x).isSome = true → x.length ≤ maxLen) :
    ∃ D : DataW Value, w.ownsMap P k anyElemS b n D ∧ Maps.size D ≤ n ∧ (strKeys D).Nodup ∧ ∀ x, x ∈ strKeys D ↔ (f x).isSome = true := by
  obtain ⟨D, h1, _, h2⟩ := mapS_keysA h hk hf
  exact ⟨D, h1, h2⟩
theorem mapS_has {P : Program} {k : TypeId} {w : World} {b n : Nat} {D : DataW Value} (ho : w.ownsMap P k anyElemS b n D) (hk : P.underlying k = some .string) (x : List UInt8) : x ∈ strKeys D ↔ has D (.string x) = true := by
  obtain ⟨es, hD, hko⟩ := ho.keysOf
  have hstr : ∀ p ∈ es, ∃ x, p.1 = .string x := fun p hp => by
    obtain ⟨v, hv⟩ := hko p hp
    obtain ⟨x, _, hx, _⟩ := Maps.keyOf_str hk hv
    exact ⟨x, hx⟩
  subst hD
  rw [has_eq, List.any_eq_true]
  show x ∈ es.map (fun p => strOf p.1) ↔ _
  rw [List.mem_map]
  constructor
  · rintro ⟨p, hp, rfl⟩
    obtain ⟨a, ha⟩ := hstr p hp
    exact ⟨p, hp, by rw [ha]; simp [Lit.sameKey, strOf]⟩
  · rintro ⟨p, hp, hs⟩
    obtain ⟨a, ha⟩ := hstr p hp
    rw [ha] at hs
    exact ⟨p, hp, by rw [ha]; simpa [Lit.sameKey, strOf] using hs⟩
/-- Put in order: the one rising list of the same names. -/
theorem sorted_asc {ss L : List (List UInt8)} (hd : ss.Nodup) (hL : AscN L) (hm : ∀ x, x ∈ ss ↔ x ∈ L) : ss.mergeSort (fun x y => decide (x ≤ y)) = L := by
  have hLd : L.Nodup := hL.imp fun {a b} h => lt8_ne h
  have hp : ss.Perm L := (List.perm_ext_iff_of_nodup hd hLd).2 hm
  have h1 := mergeSort_of_perm hp
  refine h1.trans (List.mergeSort_of_pairwise ?_)
  refine hL.imp fun {a b} h => ?_
  have h2 : a < b := by
    have := h
    unfold lt8 at this
    rw [bytesLess_eq] at this
    exact of_decide_eq_true this
  exact decide_eq_true (List.le_of_lt h2)
theorem sorted_keys {ss L : List (List UInt8)} {D : DataW Value} {f : List UInt8 → Option Value} (hs : ss.Perm (strKeys D)) (hd : (strKeys D).Nodup) (hm : ∀ x, x ∈ strKeys D ↔ (f x).isSome = true) (hL : AscN L) (hf : ∀ x, (f x).isSome = true ↔ x ∈ L) : ss.mergeSort (fun x y => decide (x ≤ y)) = L :=
  sorted_asc (hs.nodup_iff.2 hd) hL fun x => by rw [hs.mem_iff, hm x, hf x]
end Go.Proofs.YtlncdmdffpaojaaGreatDoor

namespace Go.Proofs.YtlncdmdffpaojaaGreatDoor
open Go.RowKit Go.Maps Go.Sort

theorem all13 (mb : Option Nat) (W : World) : Calls Tryz.prog 79 #[.map mb] W fun e w' => e = .returned (.func (.func 107) #[] #[.pointer (some ⟨W.heap.size, 0, none⟩)]) ∧ w' = W.alloc (.cells #[.map mb] 137) := by
  go_enter Tryz.func79, Tryz.ntmps79
  go_wp2
  go_ret
  exact ⟨rfl, rfl⟩
/-- A key of a map. -/
abbrev KeyOf (f : List UInt8 → Option Value) := { x : List UInt8 // (f x).isSome = true }
set_option maxRecDepth 100000 in
set_option maxHeartbeats 1000000 in
theorem all_in13 {f : List UInt8 → Option Value} {v : List UInt8 → Value} (hv : ∀ x u, f x = some u → u = v x) (n : Nat) (hn : 1 ≤ n) (l Bm b nn : Nat) (D : DataW Value) (J Jx : List (KeyOf f) → World → Prop)
    (hat0 : ∀ x : List UInt8, x.length ≤ maxLen → ∀ zd, D.atKey (.string x) zd = (match f x with | some v => .held v | none => zd)) (hmem : ∀ x, x ∈ strKeys D ↔ (f x).isSome = true)
    (hY : ∀ pre x W, J pre W → pre.length < Maps.size D → YieldAt Fence.wide (n - 1) Tryz.prog l #[encStr x.1, v x.1] W fun e W' =>
      (e = .returned (.bool true) ∧ J (pre ++ [x]) W' ∧ KeepsWalks W W') ∨ (e = .returned (.bool false) ∧ Jx (pre ++ [x]) W'))
    (W : World) (hJ : AbidesFrom W.heap.size J) (hm : W.cell? ⟨Bm, 0, none⟩ = some (.map (some b))) (hown : W.ownsMap Tryz.prog 9 anyElemS b nn D) (h0 : J [] W) :
    CallsIn Fence.wide n Tryz.prog 107 #[.func (.yield l) #[] #[], .pointer (some ⟨Bm, 0, none⟩)] W fun e W' => (∃ v, e = .returned v) ∧
      ((∃ xs, ((xs.map (·.1)).Nodup ∧ ∀ x, x ∈ xs.map (·.1) ↔ (f x).isSome = true) ∧ J xs W') ∨ (∃ pre, (pre.map (·.1)).Nodup ∧ Jx pre W')) := by
  have hkS := Tryz.underlying9
  have hhas : ∀ x, has D (.string x) = true ↔ (f x).isSome = true := fun x => (mapS_has hown hkS x).symm.trans (hmem x)
  refine callsIn_of_wp Tryz.func107 rfl trivial ?_ rfl
  simp only [Tryz.ntmps107, List.size_toArray, List.length_cons, List.length_nil, Nat.reduceAdd, Nat.reduceSub, Array.replicate_succ, Array.replicate_zero, List.push_toArray, List.append_toArray, List.nil_append, List.cons_append]
  gi_wp2_with (first
    | (gi_at_range; refine wpListIn_range_own _ rfl _ 137 rfl 9 22 (string_keyed hkS) Tryz.underlying137 anyElemS b nn _ rfl hown ?_; intro w0 hrg0 hg0 hs0)
    | gi_in)
  go_frame
  gi_loopw [3, 4] (fun _ _ wr => ∃ (left : Lit → Bool) (cnt : Nat) (ps : List (KeyOf f)), wr.ranges Tryz.prog 9 anyElemS b W.heap.size nn D left cnt ∧ ps.length + cnt ≤ Maps.size D ∧ Collected D left (ps.map (·.1)) ∧ J ps wr)
    (fun _ _ wr => wr.rangeLeft b W.heap.size)
  case atStart =>
    exact ⟨_, _, [], hrg0, by simp, Collected.start D, hJ [] W w0 none h0 hg0 (fun r e => by cases e)⟩
  case round =>
    obtain ⟨left, cnt, ps, hrg, hcs, hC, hJs⟩ := hrel
    gi_wp2_with (first
      | (gi_at_next; refine wpListIn_next_ranges _ rfl _ rfl 9 (string_keyed hkS) anyElemS encStr (fun c : Value => c) (fun key kl hk => by obtain ⟨x, hx, _⟩ := Maps.keyOf_str hkS hk; exact ⟨x, hx⟩) (fun v y _ => ⟨v, rfl⟩) b W.heap.size nn _ _ _ rfl hrg ?_ ?_)
      | gi_in)
    · intro hc0 hl0
      gi_wp2
      go_end0
      refine ⟨⟨_, rfl⟩, .inl ⟨ps, ⟨hC.1, fun x => ?_⟩, hJs⟩⟩
      rw [hC.2 x, hl0, hhas x]
      simp
    · intro x c kl yd yp w2 cnt2 hkey hlk hyv hat hrg2 hlt hg2 hs2 hen
      obtain ⟨x', ex, rfl, hxl⟩ := Maps.keyOf_str hkS hkey
      obtain rfl : x = x' := encStr_inj ex
      have hc : c = v x ∧ (f x).isSome = true := by
        have h1 := hat .nil
        rw [hat0 x hxl .nil] at h1
        have h2 : yd = .held c := (congrArg Prod.fst (Option.some.inj hyv)).symm
        rw [h2] at h1
        cases hfx : f x with
        | none => rw [hfx] at h1; cases h1
        | some u =>
          rw [hfx] at h1
          injection h1 with h1
          exact ⟨by rw [← h1]; exact hv x u hfx, rfl⟩
      obtain ⟨rfl, hsome⟩ := hc
      have hJ2 : J ps w2 := hJ ps wr w2 (some W.heap.size) hJs hg2 (fun r e => by cases e; exact ⟨Nat.le_refl _, hrg.iter_walk⟩)
      obtain ⟨fn, tmps, assign, body, hy, hR⟩ := hY ps ⟨x, hsome⟩ w2 hJ2 (by omega)
      clear hs2
      gi_wp2
      refine hR.mono ?_
      have hC2 : Collected D (fun z => left z && !z.sameKey (.string x)) ((ps ++ [(⟨x, hsome⟩ : KeyOf f)]).map (·.1)) := by simpa using hC.step hlk hat
      rintro e W3 (⟨rfl, hJ3, hk3⟩ | ⟨rfl, hJx3⟩)
      · gi_wp2
        have hrg3 := hrg2.of_walks hk3
        go_roundw
        case rel => exact ⟨_, cnt2, ps ++ [⟨x, hsome⟩], hrg3, by simp; omega, hC2, hJ3⟩
        case measure => rw [hrg3.left_eq, hrg.left_eq]; exact hlt
      · gi_wp2
        refine bodyPost_ret (results_none rfl _ _ _) rfl ?_
        exact ⟨⟨_, rfl⟩, .inr ⟨ps ++ [⟨x, hsome⟩], hC2.1, hJx3⟩⟩
theorem all_stops13 {f : List UInt8 → Option Value} {v : List UInt8 → Value} (hv : ∀ x u, f x = some u → u = v x) (n : Nat) (hn : 1 ≤ n) (Bm b nn : Nat) (w : World) (hBm : Bm < w.heap.size) (hm : w.cell? ⟨Bm, 0, none⟩ = some (.map (some b))) (h : MapS Tryz.prog 9 w b nn f) (hf : ∀ x, (f x).isSome = true → x.length ≤ maxLen) :
    ∃ k, k ≤ nn ∧ SeqStopsK Fence.wide n Tryz.prog 107 #[.pointer (some ⟨Bm, 0, none⟩)] (fun x : KeyOf f => #[.string (bs x.1), v x.1]) KeepsWalks (fun ss => (ss.map (·.1)).Nodup ∧ ∀ x, x ∈ ss.map (·.1) ↔ (f x).isSome = true) (fun pre => (pre.map (·.1)).Nodup) k w := by
  obtain ⟨D0, ho, hat0, hs, _, hm2⟩ := mapS_keysA h Tryz.underlying9 hf
  refine ⟨Maps.size D0, hs, fun l J Jx W hW hJ _ hY h0 => ?_⟩
  have hown' : W.ownsMap Tryz.prog 9 anyElemS b nn D0 := by
    have hbl := ho.lt
    obtain ⟨es, clock, hb, Ft, hs, hD⟩ := ho
    exact ⟨es, clock, (hW.block b hbl).trans hb, Ft, hs, hD⟩
  refine all_in13 hv n hn l Bm b nn D0 J Jx (fun x hx zd => ?_) hm2 (fun pre x W1 hj hl => ?_) W hJ ((hW.cell (p := ⟨Bm, 0, none⟩) hBm).trans hm) hown' h0
  · have := hat0 ⟨x.toArray⟩ (by show x.toArray.size ≤ _; simpa using hx) zd
    rw [show (⟨x.toArray⟩ : ByteArray).data.toList = x by simp] at this
    refine this.trans ?_
    cases f x <;> rfl
  · exact (hY pre x W1 hj hl).mono fun e W' hr => hr
end Go.Proofs.YtlncdmdffpaojaaGreatDoor

namespace Go.Proofs.YtlncdmdffpaojaaGreatDoor
open Go.RowKit

/-- A directory that lies there, its floor. -/
structure DirAt (S : List (List Ent)) (P : List UInt8) (f : Nat) : Prop where
  ok : LkOK S
  path : isP P
  zero : (atS S P).1 = 0
  kind : (atS S P).2.1.2.1 = 2
  floor : f = (atS S P).2.2
  low : S ≠ [] → f < S.length
  le : f ≤ S.length
theorem dir_at {S : List (List Ent)} {P : List UInt8} (hok : LkOK S) (hp : isP P) (h0 : (atS S P).1 = 0) (hk : (atS S P).2.1.2.1 = 2) : DirAt S P (atS S P).2.2 := by
  have hfl : P ≠ [47] → (atS S P).2.2 < S.length := fun hr => (floor_par hp hr h0).2
  have hr0 : P = [47] → (atS S P).2.2 = 0 := fun e => by rw [e, atS_root]
  refine ⟨hok, hp, h0, hk, rfl, fun hS => ?_, ?_⟩
  · by_cases hr : P = [47]
    · rw [hr0 hr]
      exact List.length_pos_iff.2 hS
    · exact hfl hr
  · by_cases hr : P = [47]
    · rw [hr0 hr]
      omega
    · have := hfl hr
      omega
theorem dir_dr {S : List (List Ent)} {P : List UInt8} {f : Nat} (h : drV S P = (0, f)) : DirAt S P f := by
  unfold drV at h
  by_cases hok : LkOK S
  · rw [lkV_ok hok] at h
    by_cases hp : isP P
    · by_cases h0 : (atS S P).1 = 0
      · rw [if_neg (not_not_intro h0)] at h
        by_cases hk : (atS S P).2.1.2.1 = 2
        · rw [if_neg (not_not_intro hk)] at h
          obtain rfl : (atS S P).2.2 = f := congrArg Prod.snd h
          exact dir_at hok hp h0 hk
        · rw [if_pos hk] at h
          have : (6 : Int) = 0 := congrArg Prod.fst h
          omega
      · rw [if_pos h0] at h
        exact absurd (congrArg Prod.fst h) h0
    · rw [atS_bad hp] at h
      have : (2 : Int) = 0 := congrArg Prod.fst h
      omega
  · rw [lkV_bad hok] at h
    have : (16 : Int) = 0 := congrArg Prod.fst h
    omega
/-- A name of a directory's. -/
abbrev NameOf (S : List (List Ent)) (P : List UInt8) := { x : List UInt8 // x ∈ nmsV (stk S) P }
/-- What lies at a name. -/
def fndAt (S : List (List Ent)) (P x : List UInt8) : Ent × Nat := (atS S (cp13 P x)).2
section
variable {S : List (List Ent)} {P x : List UInt8} {f : Nat}
theorem DirAt.met (h : DirAt S P f) (hx : ∃ l ∈ S.drop f, ∃ e ∈ l, in13 P x e) : nm x = true ∧ (pcs P).length < 6 := by
  obtain ⟨l, hl, e, he, hi⟩ := hx
  obtain ⟨h1, _, _, h4⟩ := in_nm ((h.ok.2 l (List.mem_of_mem_drop hl)).2.1 e he) hi
  exact ⟨h1, h4⟩
theorem DirAt.shows (h : DirAt S P f) (hx : nm x = true) (hd : (pcs P).length < 6) : x ∈ nmsV (stk S) P ↔ (atS S (cp13 P x)).1 = 0 := by
  obtain ⟨c1, c2, c3, c4⟩ := cp_parts h.path hx hd
  have := shows_iff h.ok.2 c1 c2
  rwa [c3, c4] at this
theorem DirAt.names (h : DirAt S P f) (hx : x ∈ nmsV (stk S) P) : ∃ l ∈ S.drop f, ∃ e ∈ l, in13 P x e := by
  obtain ⟨i, h1, h2, e, h3, h4, h5, _⟩ := (names_look h.ok.2).1 hx
  rw [← h.floor] at h1
  refine ⟨layN S i, ?_, e, h3, h4, h5⟩
  rw [List.mem_iff_getElem]
  refine ⟨i - f, by rw [List.length_drop]; omega, ?_⟩
  rw [List.getElem_drop]
  unfold layN
  rw [List.getD_eq_getElem?_getD, List.getElem?_eq_getElem h2]
  simp only [show f + (i - f) = i by omega]
  rfl
theorem DirAt.own (h : DirAt S P f) (hx : nm x = true) : LkOK (ownS (S.drop f) P x) := by
  refine ⟨by rw [ownS_len, List.length_drop]; have := h.ok.1; omega, fun l hl => ?_⟩
  obtain ⟨l', hl', rfl⟩ := List.mem_map.1 hl
  exact own1_right hx (h.ok.2 l' (List.mem_of_mem_drop hl'))
/-- What At answers of the name's own stack. -/
theorem DirAt.look (h : DirAt S P f) (hx : nm x = true) (hd : (pcs P).length < 6) :
    ((lkV (ownS (S.drop f) P x) (47 :: x)).1 = 0 ↔ x ∈ nmsV (stk S) P) ∧ (x ∈ nmsV (stk S) P → ∃ g, (lkV (ownS (S.drop f) P x) (47 :: x)).2 = ((rn13 x, (fndAt S P x).1.2), g) ∧ g + f = (fndAt S P x).2 ∧ (fndAt S P x).1.1 = bs (cp13 P x) ∧ (fndAt S P x).2 < S.length) := by
  obtain ⟨c1, c2, _, _⟩ := cp_parts h.path hx hd
  rw [lkV_ok (h.own hx), h.shows hx hd]
  obtain ⟨a1, a2⟩ := at_own h.zero h.kind h.floor h.le hx h.path hd
  rw [a1]
  refine ⟨Iff.rfl, fun h0 => ?_⟩
  obtain ⟨a3, a4, a5⟩ := a2 h0
  have hlt := (floor_par c1 c2 h0).2
  refine ⟨(atS (ownS (S.drop f) P x) (47 :: x)).2.2, Prod.ext (a3.trans rfl) rfl, a4, ?_, hlt⟩
  show (atS S (cp13 P x)).2.1.1 = _
  rw [a5]
/-- The names that come, of those that the map has. -/
def outL {g : List UInt8 → Option Value} (S : List (List Ent)) (P : List UInt8) (ps : List (KeyOf g)) : List (NameOf S P) := ps.filterMap fun x => if h : x.1 ∈ nmsV (stk S) P then some ⟨x.1, h⟩ else none
theorem outL_in {g : List UInt8 → Option Value} (ps : List (KeyOf g)) (x : KeyOf g) (h : x.1 ∈ nmsV (stk S) P) : outL S P (ps ++ [x]) = outL S P ps ++ [⟨x.1, h⟩] := by
  unfold outL
  rw [List.filterMap_append]
  simp [h]
theorem outL_out {g : List UInt8 → Option Value} (ps : List (KeyOf g)) (x : KeyOf g) (h : x.1 ∉ nmsV (stk S) P) : outL S P (ps ++ [x]) = outL S P ps := by
  unfold outL
  rw [List.filterMap_append]
  simp [h]
theorem outL_len {g : List UInt8 → Option Value} (ps : List (KeyOf g)) : (outL S P ps).length ≤ ps.length := List.length_filterMap_le _ _
theorem outL_val {g : List UInt8 → Option Value} : ∀ (ps : List (KeyOf g)), (outL S P ps).map (·.1) = (ps.map (·.1)).filter fun x => decide (x ∈ nmsV (stk S) P)
  | [] => rfl
  | x :: ps => by
    have ih := outL_val ps
    unfold outL at ih ⊢
    by_cases h : x.1 ∈ nmsV (stk S) P
    · simp [h, ih]
    · simp [h, ih]
end
/-- All names came. -/
def AllN (S : List (List Ent)) (P : List UInt8) (xs : List (NameOf S P)) : Prop := (xs.map (·.1)).Nodup ∧ ∀ x, x ∈ xs.map (·.1) ↔ x ∈ nmsV (stk S) P
/-- No name came twice. -/
def SomeN (S : List (List Ent)) (P : List UInt8) (xs : List (NameOf S P)) : Prop := (xs.map (·.1)).Nodup
theorem some_out {S : List (List Ent)} {P : List UInt8} {g : List UInt8 → Option Value} {ps : List (KeyOf g)} (h : (ps.map (·.1)).Nodup) : SomeN S P (outL S P ps) := by
  unfold SomeN
  rw [outL_val]
  exact h.filter _
theorem all_out {S : List (List Ent)} {P : List UInt8} {g : List UInt8 → Option Value} {ps : List (KeyOf g)} (h : (ps.map (·.1)).Nodup) (ha : ∀ x, x ∈ ps.map (·.1) ↔ (g x).isSome = true) (hg : ∀ x, x ∈ nmsV (stk S) P → (g x).isSome = true) : AllN S P (outL S P ps) := by
  refine ⟨some_out h, fun x => ?_⟩
  rw [outL_val, List.mem_filter, ha x, decide_eq_true_iff]
  exact ⟨fun h => h.2, fun h => ⟨hg x h, h⟩⟩
/-- A name's path, as the program makes it. -/
theorem path_text {p : ByteArray} {x : List UInt8} (h : isP p.data.toList) : ((if p.data.toList = [47] then (⟨#[]⟩ : ByteArray) else p) ++ (⟨#[47]⟩ : ByteArray)) ++ bs x = bs (cp13 p.data.toList x) := by
  refine bs_of ?_
  rw [cp_text h, ByteArray.data_append, ByteArray.data_append, Array.toList_append, Array.toList_append, bs_list]
  by_cases hr : p.data.toList = [47]
  · rw [if_pos hr, if_pos hr]
    simp
  · rw [if_neg hr, if_neg hr]
    simp
theorem rn_cat (x : List UInt8) : ((⟨#[47]⟩ : ByteArray) ++ bs x) = rn13 x := by
  show _ = bs (47 :: x)
  refine bs_of ?_
  rw [ByteArray.data_append, Array.toList_append, bs_list]
  rfl
end Go.Proofs.YtlncdmdffpaojaaGreatDoor

namespace Go.Proofs.YtlncdmdffpaojaaGreatDoor
open Go Go.RowKit

/-- What a round keeps: all below B; whatever is no cells; what is not the caller's own (O); its own loop's record aside. -/
structure RoundL (l B : Nat) (O : Nat → Prop) (W W' : World) : Prop where
  low : Below B W W'
  size : W.heap.size ≤ W'.heap.size
  others : ∀ (k : Nat) (o : Obj), k ≠ l → W.heap[k]? = some o → o.isCells = false → W'.heap[k]? = some o
  kept : ∀ k < W.heap.size, k ≠ l → ¬ O k → W'.heap[k]? = W.heap[k]?
  walks : KeepsWalks W W'
/-- What is the caller's own behind a round. -/
def GrowO (n : Nat) (O O' : Nat → Prop) : Prop := ∀ k, O' k → O k ∨ n ≤ k
/-- Cells lie as they lay. -/
def CellsKept (W W' : World) : Prop := ∀ (k : Nat) (o : Obj), W.heap[k]? = some o → o.isCells = true → W'.heap[k]? = some o
/-- A round's answer to the iterator. -/
def YieldL {α : Type} (P : Program) (l B : Nat) (args : Array Value) (W : World) (J : List α → (Nat → Prop) → World → Prop) (Jx : List α → World → Prop) (O : Nat → Prop) (xs : List α) : Prop :=
  YieldAt Fence.wide 0 P l args W fun e W' => RoundL l B O W W' ∧ ((e = .returned (.bool true) ∧ ∃ O', GrowO W.heap.size O O' ∧ J xs O' W') ∨ (e = .returned (.bool false) ∧ Jx xs W'))
/-- What an iterator promises: B: below it nothing is turned; Pr: blocks that it wants kept. -/
def SeqL {α : Type} (P : Program) (g : Nat) (lb : Array Value) (encs : α → Array Value) (S Sp : List α → Prop) (N B : Nat) (Pr : Nat → Prop) (w : World) : Prop :=
  ∀ (l : Nat) (J : List α → (Nat → Prop) → World → Prop) (Jx : List α → World → Prop) (O : Nat → Prop) (W : World), Below w.heap.size w W → w.heap.size ≤ l → l < W.heap.size →
    (∀ pre O X, J pre O X → ∀ k, O k → ∃ o : Obj, X.heap[k]? = some o ∧ o.isCells = true) →
    (∀ pre O X Y, J pre O X → W.heap.size ≤ X.heap.size → Below W.heap.size X Y → (∀ k, O k → Y.heap[k]? = X.heap[k]?) → J pre O Y) →
    (∀ pre X Y, Jx pre X → W.heap.size ≤ X.heap.size → Below W.heap.size X Y → CellsKept X Y → Jx pre Y) →
    (∀ pre O x W1, J pre O W1 → pre.length < N → YieldL P l B (encs x) W1 J Jx O (pre ++ [x])) → J [] O W → (∀ k, O k → k < w.heap.size ∧ B ≤ k ∧ ¬ Pr k) →
    Calls P g (#[.func (.yield l) #[] #[]] ++ lb) W fun e W' => (∃ v, e = .returned v) ∧ ((∃ xs O, S xs ∧ J xs O W') ∨ (∃ pre, Sp pre ∧ Jx pre W'))
/-- A round's contract, asked within another round. -/
theorem yield_in {m m' : Nat} {P : Program} {l : Nat} {args : Array Value} {W : World} {R : Ending → World → Prop} (l' : Nat) (h : YieldAt Fence.wide m P l args W R) : YieldAt (Fence.wide.inRound l') m' P l args W R := by
  obtain ⟨fn, tmps, assign, body, hy, hF, hr⟩ := h
  exact ⟨fn, tmps, assign, body, hy, hF, fun c cs _ => hr c cs (room_wide _)⟩
/-- What a body keeps. -/
structure StepL (B : Nat) (O : Nat → Prop) (W W' : World) : Prop where
  low : Below B W W'
  others : KeepsOthers W W'
  kept : ∀ k < W.heap.size, ¬ O k → W'.heap[k]? = W.heap[k]?
/-- How a body may be left. -/
def bodyL {α : Type} (B : Nat) (I : List α → (Nat → Prop) → World → Prop) (Ix : Code → List α → World → Prop) (O : Nat → Prop) (xs : List α) (W : World) : Exit → Act → World → Prop
  | .normal, _, W' => StepL B O W W' ∧ ∃ O', GrowO W.heap.size O O' ∧ I xs O' W'
  | .ret, _, W' => StepL B O W W' ∧ Ix .ret xs W'
  | .exit id, _, W' => StepL B O W W' ∧ Ix (.exit id) xs W'
  | .goto t, _, W' => StepL B O W W' ∧ Ix (.goto t) xs W'
  | .panic _, _, _ => False
  | .outgrown, _, _ => False
theorem cellsKept_put {W : World} {k : Nat} {o : Obj} (o' : Obj) (h : W.heap[k]? = some o) (ho : o.isCells = false) : CellsKept W (W.putObj k o') := fun j oj hj hc => by
  by_cases e : j = k
  · subst e
    rw [h] at hj
    cases hj
    rw [ho] at hc
    cases hc
  · exact (World.putObj_heap_other e).trans hj
theorem below_put {B : Nat} {W : World} {k : Nat} (o' : Obj) (hk : B ≤ k) (hW : B ≤ W.heap.size) : Below B W (W.putObj k o') :=
  (Below.refl B W).grown (grownBy_putObj' W k o') hW fun j e => by cases e; exact hk
/-- What such an iterator knows between its rounds: W: the world at its start, V: where its own memory was made. -/
structure InvS {α : Type} (J : List α → (Nat → Prop) → World → Prop) (w0 w W V : World) (Pr : Nat → Prop) (xs : List α) (O : Nat → Prop) (X : World) : Prop where
  j : J xs O X
  o : ∀ k, O k → ((k < w.heap.size ∧ ¬ Pr k) ∨ V.heap.size ≤ k) ∧ w0.heap.size ≤ k
  low : Below w0.heap.size w0 X
  mid : ∀ k, W.heap.size ≤ k → k < V.heap.size → X.heap[k]? = V.heap[k]?
  pr : ∀ k, Pr k → X.heap[k]? = V.heap[k]?
  size : V.heap.size ≤ X.heap.size
section
variable {α : Type} {J : List α → (Nat → Prop) → World → Prop} {w0 w W V X Y : World} {Pr : Nat → Prop} {xs ys : List α} {O O' : Nat → Prop} {l : Nat}
/-- The iterator's own step. -/
theorem InvS.step (h : InvS J w0 w W V Pr xs O X) (hJO : ∀ pre O X, J pre O X → ∀ k, O k → ∃ o : Obj, X.heap[k]? = some o ∧ o.isCells = true)
    (hJ : ∀ pre O X Y, J pre O X → W.heap.size ≤ X.heap.size → Below W.heap.size X Y → (∀ k, O k → Y.heap[k]? = X.heap[k]?) → J pre O Y) (hWV : W.heap.size ≤ V.heap.size) (hP : ∀ k, Pr k → k < V.heap.size) (h0 : w0.heap.size ≤ V.heap.size) (hb : Below V.heap.size X Y) (hc : CellsKept X Y) : InvS J w0 w W V Pr xs O Y := by
  have hs := h.size
  refine ⟨hJ _ _ _ _ h.j (by omega) (hb.mono hWV) fun k hk => ?_, h.o, h.low.trans (hb.mono h0), fun k h1 h2 => (hb.block k h2).trans (h.mid k h1 h2), fun k hk => (hb.block k (hP k hk)).trans (h.pr k hk), Nat.le_trans hs hb.size⟩
  obtain ⟨o, q1, q2⟩ := hJO _ _ _ h.j k hk
  exact (hc k o q1 q2).trans q1.symm
/-- .. that makes memory alone. -/
theorem cellsKept_below (hb : Below X.heap.size X Y) : CellsKept X Y := fun k _ hk _ => (hb.block k (Array.getElem?_eq_some_iff.1 hk).1).trans hk
/-- A round. -/
theorem InvS.round (h : InvS J w0 w W V Pr xs O X) (hr : RoundL l w0.heap.size O X Y) (hg : GrowO X.heap.size O O') (hj : J ys O' Y) (hl : w.heap.size ≤ l ∧ l < W.heap.size) (hP : ∀ k, Pr k → k < w.heap.size) (hWV : W.heap.size ≤ V.heap.size) (h0 : w0.heap.size ≤ V.heap.size) : InvS J w0 w W V Pr ys O' Y := by
  have hs := h.size
  refine ⟨hj, fun k hk => ?_, h.low.trans hr.low, fun k h1 h2 => ?_, fun k hk => ?_, Nat.le_trans hs hr.size⟩
  · rcases hg k hk with h1 | h1
    · exact h.o k h1
    · exact ⟨.inr (by omega), by omega⟩
  · refine (hr.kept k (by omega) (by omega) fun hO => ?_).trans (h.mid k h1 h2)
    rcases (h.o k hO).1 with h3 | h3
    · omega
    · omega
  · have := hP k hk
    refine (hr.kept k (by omega) (by omega) fun hO => ?_).trans (h.pr k hk)
    rcases (h.o k hO).1 with h3 | h3
    · exact h3.2 hk
    · omega
/-- It abides the turn of what is no cells. -/
theorem invS_own {β : Type} (T : β → List α) (hJO : ∀ pre O X, J pre O X → ∀ k, O k → ∃ o : Obj, X.heap[k]? = some o ∧ o.isCells = true)
    (hJ : ∀ pre O X Y, J pre O X → W.heap.size ≤ X.heap.size → Below W.heap.size X Y → (∀ k, O k → Y.heap[k]? = X.heap[k]?) → J pre O Y) (hWV : W.heap.size ≤ V.heap.size) (hP : ∀ k, Pr k → k < V.heap.size) (h0 : w0.heap.size ≤ V.heap.size) : OwnFrom V.heap.size (fun (s : β) X => ∃ O, InvS J w0 w W V Pr (T s) O X) := by
  rintro s X Y row ⟨O, h⟩ hg hr
  refine ⟨O, h.step hJO hJ hWV hP h0 ((Below.refl _ X).grown hg h.size fun k e => (hr k e).1) fun k o hk ho => ?_⟩
  refine (hg.block k (Array.getElem?_eq_some_iff.1 hk).1 fun e => ?_).trans hk
  obtain ⟨_, o', h1, h2⟩ := hr k e.symm
  rw [hk] at h1
  cases h1
  rw [ho] at h2
  cases h2
theorem jx_own {β : Type} {Jx : List α → World → Prop} (T : β → List α) (hJx : ∀ pre X Y, Jx pre X → W.heap.size ≤ X.heap.size → Below W.heap.size X Y → CellsKept X Y → Jx pre Y) (hWV : W.heap.size ≤ V.heap.size) : OwnFrom V.heap.size (fun (s : β) X => Jx (T s) X ∧ W.heap.size ≤ X.heap.size) := by
  rintro s X Y row ⟨h, hs⟩ hg hr
  refine ⟨hJx _ _ _ h hs ((Below.refl _ X).grown hg hs fun k e => Nat.le_trans hWV (hr k e).1) fun k o hk ho => ?_, Nat.le_trans hs hg.size⟩
  refine (hg.block k (Array.getElem?_eq_some_iff.1 hk).1 fun e => ?_).trans hk
  obtain ⟨_, o', h1, h2⟩ := hr k e.symm
  rw [hk] at h1
  cases h1
  rw [ho] at h2
  cases h2
end
/-- A range over such an iterator. -/
theorem rangeL {n : Nat} {P : Program} {α : Type} {g : Operand} {ps : Array Tmp} {assign body : Code} {Q : Exit → Act → World → Prop} {a : Act} {w : World}
    {gf : Nat} {lb : Array Value} (hg : a.eval g = .func (.func gf) #[] lb) (eg : ∀ args w, (callFunc gf args).run P w = .ok (.enter gf args) w)
    {encs : α → Array Value} {S Sp : List α → Prop} {N B : Nat} {Pr : Nat → Prop} (hseq : SeqL P gf lb encs S Sp N B Pr w) (hB : B ≤ w.heap.size) (hps : ∀ x, (encs x).size = ps.size)
    (I : List α → (Nat → Prop) → World → Prop) (Ix : Code → List α → World → Prop) (O0 : Nat → Prop)
    (hO : ∀ pre O X, I pre O X → ∀ k, O k → ∃ o : Obj, X.heap[k]? = some o ∧ o.isCells = true)
    (hI : ∀ pre O X Y, I pre O X → w.heap.size ≤ X.heap.size → Below w.heap.size X Y → (∀ k, O k → Y.heap[k]? = X.heap[k]?) → I pre O Y)
    (hIx : ∀ c pre X Y, Ix c pre X → w.heap.size ≤ X.heap.size → Below w.heap.size X Y → CellsKept X Y → Ix c pre Y)
    (h0 : I [] O0 w) (hO0 : ∀ k, O0 k → B ≤ k ∧ ¬ Pr k)
    (Ax : α → Act → World → Prop) (hAx : ∀ x a' X Y, Ax x a' X → CellsKept X Y → Ax x a' Y)
    (hassign : ∀ (l : Nat) (x : α) (W : World) (K : Act → World → Prop), (∀ a' W', Below W.heap.size W W' → Ax x a' W' → K a' W') →
      assign.wpIn (Fence.wide.inRound l) 0 P (Exit.then K (fun _ _ _ => False)) { tmps := (ps.zip (encs x)).foldl (fun t (p, v) => t.setIfInBounds p v) a.tmps, defers := [] } W)
    (hbody : ∀ (l : Nat) (pre : List α) (O : Nat → Prop) (x : α) (a' : Act) (W : World), w.heap.size ≤ W.heap.size → I pre O W → Ax x a' W → pre.length < N → body.wpIn (Fence.wide.inRound l) 0 P (bodyL B I Ix O (pre ++ [x]) W) a' W)
    (hdone : ∀ (D : Nat) (xs : List α) (O : Nat → Prop) (W : World), w.heap.size ≤ D → S xs → I xs O W → W.heap[D]? = some (.deferred (some [])) → Q .normal { a with defers := { target := .collected D, args := #[] } :: a.defers } W)
    (hstop : ∀ (D : Nat) (c : Code) (pre : List α) (W : World), w.heap.size ≤ D → Sp pre → Ix c pre W → W.heap[D]? = some (.deferred (some [])) → c.wpIn Fence.wide n P Q { a with defers := { target := .collected D, args := #[] } :: a.defers } W) :
    (Code.rangeFunc g ps assign body).wpIn Fence.wide n P Q a w := by
  refine wpIn_rangeFunc fun fn _ => ?_
  obtain ⟨rec, hrec⟩ : ∃ rec : LoopState → Option Code → Loop, rec = fun st pe => { state := st, pending := pe, fn, tmps := a.tmps, params := ps, assign, body, defers := w.heap.size } := ⟨_, rfl⟩
  obtain ⟨D, hD⟩ : ∃ D, w.heap.size = D := ⟨_, rfl⟩
  obtain ⟨W1, hW1⟩ : ∃ W1, (w.alloc (.deferred (some []))).alloc (.loop (rec .ready none)) = W1 := ⟨_, rfl⟩
  have sz : W1.heap.size = D + 2 := by rw [← hW1, ← hD]; simp
  have hL1 : W1.heap[D + 1]? = some (.loop (rec .ready none)) := by
    have := World.alloc_heap_new (w.alloc (.deferred (some []))) (.loop (rec .ready none))
    rwa [World.size_alloc, hW1, hD] at this
  have hK1 : W1.heap[D]? = some (.deferred (some [])) := by
    rw [← hW1, ← hD]
    exact (Below.heap_alloc _ _ _ (by simp)).trans (World.alloc_heap_new w _)
  have hb1 : Below w.heap.size w W1 := by
    rw [← hW1]
    exact ((Below.refl _ w).alloc (Nat.le_refl _) _).alloc (by simp) _
  have hlt0 : ∀ k, O0 k → k < w.heap.size := fun k hk => by
    obtain ⟨o, h1, _⟩ := hO [] O0 w h0 k hk
    exact (Array.getElem?_eq_some_iff.1 h1).1
  have hI1 : I [] O0 W1 := hI _ _ _ _ h0 (Nat.le_refl _) hb1 fun k hk => hb1.block k (hlt0 k hk)
  have hen : (Instr.enterLoop fn a.tmps ps assign body Fence.wide.round).run P w = .ok (D + 1, [{ target := .collected D, args := #[] }]) W1 := by
    rw [← hW1, hrec, ← hD]
    exact run_enterLoop_outer _ _ _ _ _
  rw [hD] at hI hIx hdone hstop hB hbody
  have hcall := hseq (D + 1) (fun pre O W => I pre O W ∧ W.heap[D + 1]? = some (.loop (rec .ready none)) ∧ W.heap[D]? = some (.deferred (some [])))
    (fun pre W => ∃ c, Ix c pre W ∧ W.heap[D + 1]? = some (.loop (rec .done (some c))) ∧ W.heap[D]? = some (.deferred (some []))) O0 W1 hb1 (by omega) (by omega)
    (fun pre O X h => hO pre O X h.1)
    (fun pre O X Y h hs hb hk => ⟨hI _ _ _ _ h.1 (by omega) (hb.mono (by omega)) hk, (hb.block _ (by omega)).trans h.2.1, (hb.block _ (by omega)).trans h.2.2⟩)
    (fun pre X Y h hs hb hk => by
      obtain ⟨c, h1, h2, h3⟩ := h
      exact ⟨c, hIx c _ _ _ h1 (by omega) (hb.mono (by omega)) hk, (hb.block _ (by omega)).trans h2, (hb.block _ (by omega)).trans h3⟩)
    ?round ⟨hI1, hL1, hK1⟩ (fun k hk => ⟨hlt0 k hk, hO0 k hk⟩)
  case round =>
    rintro pre O x W ⟨hi, hl, hk⟩ hlen
    have hy := run_yield (P := P) (args := encs x) hl (by rw [hrec]; exact hps x)
    rw [hrec] at hy
    have hlt := (Array.getElem?_eq_some_iff.1 hl).1
    refine ⟨fn, _, assign, body, hy, roundIn_of_wpIn trivial (hassign _ x W _ fun a' W2 hb2 hx2 => ?_)⟩
    have hl2 := (hb2.block _ hlt).trans hl
    have hd2 := (hb2.block _ (Array.getElem?_eq_some_iff.1 hk).1).trans hk
    have hs2 := hb2.size
    refine ⟨_, run_beginRound hl2 (by rw [hrec]), ?_⟩
    obtain ⟨W3, hW3⟩ : ∃ W3, W2.putObj (D + 1) (.loop { rec .ready none with state := .busy }) = W3 := ⟨_, rfl⟩
    have hs3 : W3.heap.size = W2.heap.size := by rw [← hW3]; simp
    have hl3 : W3.heap[D + 1]? = some (.loop { rec .ready none with state := .busy }) := by rw [← hW3]; exact World.putObj_heap_same (by omega)
    have ho3 : ∀ k, k ≠ D + 1 → W3.heap[k]? = W2.heap[k]? := fun k hk => by rw [← hW3]; exact World.putObj_heap_other hk
    have hd3 : W3.heap[D]? = some (.deferred (some [])) := (ho3 D (by omega)).trans hd2
    have hx3 : Ax x a' W3 := hAx _ _ _ _ hx2 (by rw [← hW3]; exact cellsKept_put _ hl2 rfl)
    have hnO : ∀ k, O k → k < W.heap.size ∧ k ≠ D + 1 := fun k hk => by
      obtain ⟨o, h1, h2⟩ := hO pre O W hi k hk
      refine ⟨(Array.getElem?_eq_some_iff.1 h1).1, fun e => ?_⟩
      subst e
      rw [hl] at h1
      cases h1
      cases h2
    have hb3 : Below D W W3 := by
      rw [← hW3]
      exact (hb2.mono (by omega)).trans (below_put _ (by omega) (by omega))
    have hi3 : I pre O W3 := hI _ _ _ _ hi (by omega) hb3 fun k hk => (ho3 k (hnO k hk).2).trans (hb2.block k (hnO k hk).1)
    have hw3 : KeepsWalks W W3 := by
      refine KeepsWalks.trans ⟨hs2, fun k o hk _ => (hb2.block k (Array.getElem?_eq_some_iff.1 hk).1).trans hk⟩ ?_
      rw [← hW3]
      exact KeepsWalks.putObj _ hl2 rfl
    rw [hW3]
    refine wpIn_mono (hbody _ pre O x a' W3 (by omega) hi3 hx3 hlen) ?_
    have fin : ∀ (jump : Option Code) (W4 : World), StepL B O W3 W4 → ∃ W5, (Instr.endRound (D + 1) jump).run P W4 = .ok (.bool jump.isNone) W5 ∧ RoundL (D + 1) B O W W5 ∧ W5.heap[D + 1]? = some (.loop (rec (if jump.isNone then .ready else .done) jump)) ∧ W5.heap[D]? = some (.deferred (some [])) ∧
        D ≤ W4.heap.size ∧ Below D W4 W5 ∧ (∀ k, k ≠ D + 1 → W5.heap[k]? = W4.heap[k]?) ∧ CellsKept W4 W5 := fun jump W4 hk4 => by
      have hl4 := hk4.others.same _ _ hl3 rfl
      have hd4 := hk4.others.same _ _ hd3 rfl
      have hs4 := hk4.others.size
      have hlt4 := (Array.getElem?_eq_some_iff.1 hl4).1
      have he := run_endRound (P := P) jump hl4
      rw [hrec] at he
      have ho5 : ∀ (o' : Obj) k, k ≠ D + 1 → (W4.putObj (D + 1) o').heap[k]? = W4.heap[k]? := fun o' k hk => World.putObj_heap_other hk
      refine ⟨_, he, ⟨?_, ?_, ?_, ?_, ?_⟩, ?_, (ho5 _ D (by omega)).trans hd4, by omega, below_put _ (by omega) (by omega), ho5 _, cellsKept_put _ hl4 rfl⟩
      · exact ((hb3.mono (by omega)).trans hk4.low).trans (below_put _ (by omega) (by omega))
      · simp only [World.putObj_size]
        omega
      · intro k o hne hk ho
        exact (ho5 _ k hne).trans (hk4.others.same k o ((ho3 k hne).trans ((hb2.block k (Array.getElem?_eq_some_iff.1 hk).1).trans hk)) ho)
      · intro k hk hne hnk
        exact (ho5 _ k hne).trans ((hk4.kept k (by omega) hnk).trans ((ho3 k hne).trans (hb2.block k hk)))
      · exact hw3.trans (hk4.others.walks.trans (KeepsWalks.putObj _ hl4 rfl))
      · rw [hrec]
        exact World.putObj_heap_same hlt4
    rintro e a3 W4 hp
    cases e with
    | normal =>
      obtain ⟨hk4, O', hg4, hi4⟩ := hp
      obtain ⟨W5, hr, h1, h2, h3, h4, h5, h6, h7⟩ := fin none W4 hk4
      refine ⟨_, W5, hr, h1, .inl ⟨rfl, O', fun k hk => (hg4 k hk).imp_right fun h => by omega, hI _ _ _ _ hi4 h4 h5 fun k hk => ?_, h2, h3⟩⟩
      obtain ⟨o, q1, q2⟩ := hO _ _ _ hi4 k hk
      exact (h7 k o q1 q2).trans q1.symm
    | ret =>
      obtain ⟨hk4, hi4⟩ := hp
      obtain ⟨W5, hr, h1, h2, h3, h4, h5, h6, h7⟩ := fin (some .ret) W4 hk4
      exact ⟨_, W5, hr, h1, .inr ⟨rfl, .ret, hIx _ _ _ _ hi4 h4 h5 h7, h2, h3⟩⟩
    | exit id =>
      obtain ⟨hk4, hi4⟩ := hp
      obtain ⟨W5, hr, h1, h2, h3, h4, h5, h6, h7⟩ := fin (some (.exit id)) W4 hk4
      exact ⟨_, W5, hr, h1, .inr ⟨rfl, .exit id, hIx _ _ _ _ hi4 h4 h5 h7, h2, h3⟩⟩
    | goto t =>
      obtain ⟨hk4, hi4⟩ := hp
      obtain ⟨W5, hr, h1, h2, h3, h4, h5, h6, h7⟩ := fin (some (.goto t)) W4 hk4
      exact ⟨_, W5, hr, h1, .inr ⟨rfl, .goto t, hIx _ _ _ _ hi4 h4 h5 h7, h2, h3⟩⟩
    | panic ch => exact hp.elim
    | outgrown => exact hp.elim
  have hpost : CallsIn Fence.wide (n - 1) P gf (#[.func (.yield (D + 1)) #[] #[]] ++ lb) W1 (rangePost Fence.wide n P (D + 1) Q { a with defers := [{ target := .collected D, args := #[] }] ++ a.defers }) := by
    refine callsIn_wide.2 (Calls.mono hcall ?_)
    rintro e W2 ⟨⟨v, rfl⟩, (⟨xs, O, hS, hi, hl, hk⟩ | ⟨pre, hSp, c, hi, hl, hk⟩)⟩
    · have he := run_endLoop (P := P) hl (by rw [hrec]; simp)
      rw [hrec] at he
      have hlt := (Array.getElem?_eq_some_iff.1 hl).1
      refine ⟨none, _, he, hdone D xs O _ (Nat.le_refl _) hS (hI _ _ _ _ hi (by omega) (below_put _ (by omega) (by omega)) fun k hk => ?_) ((World.putObj_heap_other (by omega)).trans hk)⟩
      obtain ⟨o, q1, q2⟩ := hO _ _ _ hi k hk
      exact (cellsKept_put _ hl rfl k o q1 q2).trans q1.symm
    · have he := run_endLoop (P := P) hl (by rw [hrec]; simp)
      rw [hrec] at he
      have hlt := (Array.getElem?_eq_some_iff.1 hl).1
      exact ⟨some c, _, he, hstop D c pre _ (Nat.le_refl _) hSp (hIx _ _ _ _ hi (by omega) (below_put _ (by omega) (by omega)) (cellsKept_put _ hl rfl)) ((World.putObj_heap_other (by omega)).trans hk)⟩
  have hres : (resolve a.eval (rangeCall g (D + 1)) 0).run P W1 = .ok { target := .fn (.func gf) lb, args := #[.func (.yield (D + 1)) #[] #[]] } W1 := by
    simp only [resolve, hg]
    simp [go_sem]
  have hinv : (invoke (.fn (.func gf) lb) #[.func (.yield (D + 1)) #[] #[]]).run P W1 = .ok (.enter gf (#[.func (.yield (D + 1)) #[] #[]] ++ lb)) W1 := by simp [invoke, go_sem, eg]
  exact ⟨D + 1, _, W1, _, W1, gf, _, W1, hen, hres, fun _ _ => trivial, hinv, (fun h => by cases h), hpost⟩
/-- .. whose first value goes to slot k1. -/
theorem rangeL1 {n : Nat} {P : Program} {α : Type} {g : Operand} {p0 p1 : Tmp} {assign body : Code} {Q : Exit → Act → World → Prop} {a : Act} {w : World} (k1 : Nat)
    {gf : Nat} {lb : Array Value} (hg : a.eval g = .func (.func gf) #[] lb) (eg : ∀ args w, (callFunc gf args).run P w = .ok (.enter gf args) w)
    {e1 e2 : α → Value} {S Sp : List α → Prop} {N B : Nat} {Pr : Nat → Prop} (hseq : SeqL P gf lb (fun x => #[e1 x, e2 x]) S Sp N B Pr w) (hB : B ≤ w.heap.size)
    (I : List α → (Nat → Prop) → World → Prop) (Ix : Code → List α → World → Prop) (O0 : Nat → Prop)
    (hO : ∀ pre O X, I pre O X → ∀ k, O k → ∃ o : Obj, X.heap[k]? = some o ∧ o.isCells = true)
    (hI : ∀ pre O X Y, I pre O X → w.heap.size ≤ X.heap.size → Below w.heap.size X Y → (∀ k, O k → Y.heap[k]? = X.heap[k]?) → I pre O Y)
    (hIx : ∀ c pre X Y, Ix c pre X → w.heap.size ≤ X.heap.size → Below w.heap.size X Y → CellsKept X Y → Ix c pre Y)
    (h0 : I [] O0 w) (hO0 : ∀ k, O0 k → B ≤ k ∧ ¬ Pr k)
    (hassign : ∀ (l : Nat) (x : α) (W : World) (K : Act → World → Prop), K { tmps := ((a.tmps.setIfInBounds p0 (e1 x)).setIfInBounds p1 (e2 x)).setIfInBounds k1 (e1 x), defers := [] } W →
      assign.wpIn (Fence.wide.inRound l) 0 P (Exit.then K (fun _ _ _ => False)) { tmps := (a.tmps.setIfInBounds p0 (e1 x)).setIfInBounds p1 (e2 x), defers := [] } W)
    (hbody : ∀ (l : Nat) (pre : List α) (O : Nat → Prop) (x : α) (W : World), w.heap.size ≤ W.heap.size → I pre O W → pre.length < N → body.wpIn (Fence.wide.inRound l) 0 P (bodyL B I Ix O (pre ++ [x]) W) { tmps := ((a.tmps.setIfInBounds p0 (e1 x)).setIfInBounds p1 (e2 x)).setIfInBounds k1 (e1 x), defers := [] } W)
    (hdone : ∀ (D : Nat) (xs : List α) (O : Nat → Prop) (W : World), w.heap.size ≤ D → S xs → I xs O W → W.heap[D]? = some (.deferred (some [])) → Q .normal { a with defers := { target := .collected D, args := #[] } :: a.defers } W)
    (hstop : ∀ (D : Nat) (c : Code) (pre : List α) (W : World), w.heap.size ≤ D → Sp pre → Ix c pre W → W.heap[D]? = some (.deferred (some [])) → c.wpIn Fence.wide n P Q { a with defers := { target := .collected D, args := #[] } :: a.defers } W) :
    (Code.rangeFunc g #[p0, p1] assign body).wpIn Fence.wide n P Q a w :=
  rangeL hg eg hseq hB (fun _ => rfl) I Ix O0 hO hI hIx h0 hO0 (fun x a' _ => a' = { tmps := ((a.tmps.setIfInBounds p0 (e1 x)).setIfInBounds p1 (e2 x)).setIfInBounds k1 (e1 x), defers := [] }) (fun _ _ _ _ h _ => h)
    (fun l x W K hK => by simpa using hassign l x W K (hK _ W (Below.refl _ _) rfl)) (fun l pre O x a' W hs hi ha hl => by subst ha; exact hbody l pre O x W hs hi hl) hdone hstop
/-- .. none of whose values is kept. -/
theorem rangeL0 {n : Nat} {P : Program} {α : Type} {g : Operand} {p0 p1 : Tmp} {assign body : Code} {Q : Exit → Act → World → Prop} {a : Act} {w : World} 
    {gf : Nat} {lb : Array Value} (hg : a.eval g = .func (.func gf) #[] lb) (eg : ∀ args w, (callFunc gf args).run P w = .ok (.enter gf args) w)
    {e1 e2 : α → Value} {S Sp : List α → Prop} {N B : Nat} {Pr : Nat → Prop} (hseq : SeqL P gf lb (fun x => #[e1 x, e2 x]) S Sp N B Pr w) (hB : B ≤ w.heap.size)
    (I : List α → (Nat → Prop) → World → Prop) (Ix : Code → List α → World → Prop) (O0 : Nat → Prop)
    (hO : ∀ pre O X, I pre O X → ∀ k, O k → ∃ o : Obj, X.heap[k]? = some o ∧ o.isCells = true)
    (hI : ∀ pre O X Y, I pre O X → w.heap.size ≤ X.heap.size → Below w.heap.size X Y → (∀ k, O k → Y.heap[k]? = X.heap[k]?) → I pre O Y)
    (hIx : ∀ c pre X Y, Ix c pre X → w.heap.size ≤ X.heap.size → Below w.heap.size X Y → CellsKept X Y → Ix c pre Y)
    (h0 : I [] O0 w) (hO0 : ∀ k, O0 k → B ≤ k ∧ ¬ Pr k)
    (hassign : ∀ (l : Nat) (x : α) (W : World) (K : Act → World → Prop), K { tmps := (a.tmps.setIfInBounds p0 (e1 x)).setIfInBounds p1 (e2 x), defers := [] } W →
      assign.wpIn (Fence.wide.inRound l) 0 P (Exit.then K (fun _ _ _ => False)) { tmps := (a.tmps.setIfInBounds p0 (e1 x)).setIfInBounds p1 (e2 x), defers := [] } W)
    (hbody : ∀ (l : Nat) (pre : List α) (O : Nat → Prop) (x : α) (W : World), w.heap.size ≤ W.heap.size → I pre O W → pre.length < N → body.wpIn (Fence.wide.inRound l) 0 P (bodyL B I Ix O (pre ++ [x]) W) { tmps := (a.tmps.setIfInBounds p0 (e1 x)).setIfInBounds p1 (e2 x), defers := [] } W)
    (hdone : ∀ (D : Nat) (xs : List α) (O : Nat → Prop) (W : World), w.heap.size ≤ D → S xs → I xs O W → W.heap[D]? = some (.deferred (some [])) → Q .normal { a with defers := { target := .collected D, args := #[] } :: a.defers } W)
    (hstop : ∀ (D : Nat) (c : Code) (pre : List α) (W : World), w.heap.size ≤ D → Sp pre → Ix c pre W → W.heap[D]? = some (.deferred (some [])) → c.wpIn Fence.wide n P Q { a with defers := { target := .collected D, args := #[] } :: a.defers } W) :
    (Code.rangeFunc g #[p0, p1] assign body).wpIn Fence.wide n P Q a w :=
  rangeL hg eg hseq hB (fun _ => rfl) I Ix O0 hO hI hIx h0 hO0 (fun x a' _ => a' = { tmps := (a.tmps.setIfInBounds p0 (e1 x)).setIfInBounds p1 (e2 x), defers := [] }) (fun _ _ _ _ h _ => h)
    (fun l x W K hK => by simpa using hassign l x W K (hK _ W (Below.refl _ _) rfl)) (fun l pre O x a' W hs hi ha hl => by subst ha; exact hbody l pre O x W hs hi hl) hdone hstop
/-- .. whose second value goes to a new block, told by T; slot k1 points to it. -/
theorem rangeLB {n : Nat} {P : Program} {α : Type} {g : Operand} {p0 p1 : Tmp} {assign body : Code} {Q : Exit → Act → World → Prop} {a : Act} {w : World} (k1 : Nat) (T : α → Nat → World → Prop) (hT : ∀ x M X Y, T x M X → CellsKept X Y → T x M Y)
    {gf : Nat} {lb : Array Value} (hg : a.eval g = .func (.func gf) #[] lb) (eg : ∀ args w, (callFunc gf args).run P w = .ok (.enter gf args) w)
    {e1 e2 : α → Value} {S Sp : List α → Prop} {N B : Nat} {Pr : Nat → Prop} (hseq : SeqL P gf lb (fun x => #[e1 x, e2 x]) S Sp N B Pr w) (hB : B ≤ w.heap.size)
    (I : List α → (Nat → Prop) → World → Prop) (Ix : Code → List α → World → Prop) (O0 : Nat → Prop)
    (hO : ∀ pre O X, I pre O X → ∀ k, O k → ∃ o : Obj, X.heap[k]? = some o ∧ o.isCells = true)
    (hI : ∀ pre O X Y, I pre O X → w.heap.size ≤ X.heap.size → Below w.heap.size X Y → (∀ k, O k → Y.heap[k]? = X.heap[k]?) → I pre O Y)
    (hIx : ∀ c pre X Y, Ix c pre X → w.heap.size ≤ X.heap.size → Below w.heap.size X Y → CellsKept X Y → Ix c pre Y)
    (h0 : I [] O0 w) (hO0 : ∀ k, O0 k → B ≤ k ∧ ¬ Pr k)
    (hassign : ∀ (l : Nat) (x : α) (W : World) (K : Act → World → Prop), (∀ M W', Below W.heap.size W W' → T x M W' → K { tmps := ((a.tmps.setIfInBounds p0 (e1 x)).setIfInBounds p1 (e2 x)).setIfInBounds k1 (.pointer (some ⟨M, 0, none⟩)), defers := [] } W') →
      assign.wpIn (Fence.wide.inRound l) 0 P (Exit.then K (fun _ _ _ => False)) { tmps := (a.tmps.setIfInBounds p0 (e1 x)).setIfInBounds p1 (e2 x), defers := [] } W)
    (hbody : ∀ (l : Nat) (pre : List α) (O : Nat → Prop) (x : α) (M : Nat) (W : World), w.heap.size ≤ W.heap.size → I pre O W → T x M W → pre.length < N → body.wpIn (Fence.wide.inRound l) 0 P (bodyL B I Ix O (pre ++ [x]) W) { tmps := ((a.tmps.setIfInBounds p0 (e1 x)).setIfInBounds p1 (e2 x)).setIfInBounds k1 (.pointer (some ⟨M, 0, none⟩)), defers := [] } W)
    (hdone : ∀ (D : Nat) (xs : List α) (O : Nat → Prop) (W : World), w.heap.size ≤ D → S xs → I xs O W → W.heap[D]? = some (.deferred (some [])) → Q .normal { a with defers := { target := .collected D, args := #[] } :: a.defers } W)
    (hstop : ∀ (D : Nat) (c : Code) (pre : List α) (W : World), w.heap.size ≤ D → Sp pre → Ix c pre W → W.heap[D]? = some (.deferred (some [])) → c.wpIn Fence.wide n P Q { a with defers := { target := .collected D, args := #[] } :: a.defers } W) :
    (Code.rangeFunc g #[p0, p1] assign body).wpIn Fence.wide n P Q a w :=
  rangeL hg eg hseq hB (fun _ => rfl) I Ix O0 hO hI hIx h0 hO0 (fun x a' W => ∃ M, a' = { tmps := ((a.tmps.setIfInBounds p0 (e1 x)).setIfInBounds p1 (e2 x)).setIfInBounds k1 (.pointer (some ⟨M, 0, none⟩)), defers := [] } ∧ T x M W) (fun x a' X Y h hk => by
      obtain ⟨M, h1, h2⟩ := h
      exact ⟨M, h1, hT x M X Y h2 hk⟩)
    (fun l x W K hK => by simpa using hassign l x W K fun M W' hb ht => hK _ W' hb ⟨M, rfl, ht⟩) (fun l pre O x a' W hs hi ha hl => by
      obtain ⟨M, rfl, ht⟩ := ha
      exact hbody l pre O x M W hs hi ht hl) hdone hstop
end Go.Proofs.YtlncdmdffpaojaaGreatDoor

namespace Go.Proofs.YtlncdmdffpaojaaGreatDoor
open Go.RowKit

theorem ba_ext2 {a : ByteArray} {l : List UInt8} (h : a.data.toList = l) : a = ⟨l.toArray⟩ := of_data h
set_option maxHeartbeats 1000000 in
theorem hasSuf13 (p : ByteArray) (h1 : 1 ≤ p.size) (h2 : p.size ≤ 54) (w : World) : Calls Tryz.prog 118 #[.string p, .string ⟨#[47]⟩] w fun e w' => e = .returned (.bool (decide (p.data.toList.drop (p.size - 1) = [47]))) ∧ w = w' := by
  have k1 : (1 : Int) ≤ (p.size : Int) := by omega
  have k2 : IntKind.i64.wrap ((p.size : Int) - 1) = ((p.size - 1 : Nat) : Int) := by
    rw [show ((p.size - 1 : Nat) : Int) = (p.size : Int) - 1 by omega]
    exact IntWalk.i64_in _ (by omega)
  have k3 : (0 : Int) ≤ ((p.size - 1 : Nat) : Int) := by omega
  have k4 : ((p.size - 1 : Nat) : Int) ≤ (p.size : Int) := by omega
  go_enter Tryz.func118, Tryz.ntmps118
  go_wp2
  go_ret
  refine ⟨?_, rfl⟩
  congr 2
  rw [Lib.toList_data, ByteArray.data_extract, Array.toList_extract]
  have e : p.data.toList.extract (p.size - 1) p.size = p.data.toList.drop (p.size - 1) := by
    rw [List.extract_eq_take_drop]
    exact List.take_of_length_le (by rw [List.length_drop, ← Lib.size_eq]; omega)
  rw [e]
  show Value.bool (_ == _) = _
  congr 1
  rw [Bool.eq_iff_iff]
  simp
theorem last_slash {P : List UInt8} (h : isP P) (h1 : P ≠ [47]) : P.drop (P.length - 1) ≠ [47] := fun e => by
  obtain ⟨ms, x, _, a2, _, a4⟩ := par h h1
  have hx := nm_ne a2
  have hs := nm_noslash a2
  have hm : (47 : UInt8) ∈ P.drop (P.length - 1) := by rw [e]; simp
  have hl : (jn ms).length + 1 ≤ P.length - 1 := by
    rw [a4, List.length_append, List.length_cons]
    have := List.length_pos_iff.2 hx
    omega
  have hd : P.drop (P.length - 1) = x.drop (P.length - 1 - ((jn ms).length + 1)) := by
    conv => lhs; rw [a4]
    rw [show jn ms ++ 47 :: x = (jn ms ++ [47]) ++ x by simp, List.drop_append, List.drop_of_length_le (by simp; rw [a4] at hl; simpa using hl)]
    rw [a4]
    simp
  rw [hd] at hm
  exact hs (List.mem_of_mem_drop hm)
theorem ts13 (p : ByteArray) (hP : isP p.data.toList) (h2 : p.size ≤ 54) (w : World) : Calls Tryz.prog 108 #[.string p, .string ⟨#[47]⟩] w fun e w' => e = .returned (.string (if p.data.toList = [47] then ⟨#[]⟩ else p)) ∧ w = w' := by
  have hs1 : 1 ≤ p.size := by
    rw [Lib.size_eq]
    obtain ⟨h1, _⟩ := hP
    cases h : p.data.toList with
    | nil => rw [h] at h1; cases h1
    | cons x l => simp
  have H2 := Lib.hid (hasSuf13 p hs1 h2)
  by_cases hr : p.data.toList = [47]
  · have hp : p = ⟨#[47]⟩ := ba_ext2 hr
    subst hp
    rw [if_pos hr]
    have hd : decide ((⟨#[47]⟩ : ByteArray).data.toList.drop ((⟨#[47]⟩ : ByteArray).size - 1) = [47]) = true := by decide
    rw [hd] at H2
    clear hd hr hs1 h2 hP
    go_enter Tryz.func108, Tryz.ntmps108
    go_wp2_with fail
    refine (H2.out _).mono ?_
    rintro e w' ⟨rfl, rfl⟩
    go_wp2
    go_ret
    exact ⟨rfl, rfl⟩
  · rw [if_neg hr]
    have hd : decide (p.data.toList.drop (p.size - 1) = [47]) = false := decide_eq_false (by rw [Lib.size_eq]; exact last_slash hP hr)
    rw [hd] at H2
    clear hd hs1 h2 hr hP
    go_enter Tryz.func108, Tryz.ntmps108
    go_wp2_with fail
    refine (H2.out _).mono ?_
    rintro e w' ⟨rfl, rfl⟩
    go_wp2
    go_ret
    exact ⟨rfl, rfl⟩
theorem trim13 (p : ByteArray) (hP : isP p.data.toList) (h2 : p.size ≤ 54) (w : World) : Calls Tryz.prog 81 #[.string p, .string ⟨#[47]⟩] w fun e w' => e = .returned (.string (if p.data.toList = [47] then ⟨#[]⟩ else p)) ∧ w = w' := by
  have H2 := Lib.hid (ts13 p hP h2)
  obtain ⟨q, hq⟩ : ∃ q, (if p.data.toList = [47] then (⟨#[]⟩ : ByteArray) else p) = q := ⟨_, rfl⟩
  rw [hq] at H2 ⊢
  clear hP h2 hq
  go_enter Tryz.func81, Tryz.ntmps81
  go_wp2_with fail
  refine (H2.out _).mono ?_
  rintro e w' ⟨rfl, rfl⟩
  go_wp2
  go_ret
  exact ⟨rfl, rfl⟩
end Go.Proofs.YtlncdmdffpaojaaGreatDoor
