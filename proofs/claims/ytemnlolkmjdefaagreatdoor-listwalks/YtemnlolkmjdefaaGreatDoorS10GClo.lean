/-
  The contract of the closure that package fold's gone answers: whether an entry of a tree goes. Conditions: the closure holds the map of a right layer; the entry is right.
-/
import Derived.Test.YtemnlolkmjdefaaGreatDoorS10Gone2
import Derived.Test.YtemnlolkmjdefaaGreatDoorS10Par
namespace Go.Proofs.YtemnlolkmjdefaaGreatDoor
open Go.RowKit Go.Maps

set_option maxRecDepth 10000 in
set_option maxHeartbeats 2000000 in
theorem gclo10 (l : List Ent) (B P : Nat) (x : Ent) (w : World) (hg : GoneAt w B P l) (hA : Asc l) (hr : ∀ e ∈ l, rE e = true) (hx : rE x = true) :
    Calls Tryz.prog 106 (#[enV x] ++ #[.pointer (some ⟨P, 0, none⟩)]) w fun e w' => e = .returned (.bool (goes l x)) ∧ Below w.heap.size w w' := by
  obtain ⟨p1, p2⟩ := rE_isP hx
  have h54 := isP_len p1
  rw [← Lib.size_eq] at h54
  have HPP := Lib.hid (par9_isP p1 p2)
  have HP1 := Lib.hid p1
  have HP2 := Lib.hid p2
  have HA := Lib.hid hA
  have HR := Lib.hid hr
  obtain ⟨W, hW⟩ : ∃ W, w.alloc (.cells #[.string x.1, .int .i64 x.2.1, .string x.2.2] 41) = W := ⟨_, rfl⟩
  obtain ⟨N, hN⟩ : ∃ N, w.heap.size = N := ⟨_, rfl⟩
  have hb0 : Below w.heap.size w W := by rw [← hW]; exact (Below.refl _ _).alloc (Nat.le_refl _) _
  have hq : EnAt W N x.1 x.2.1 x.2.2 := by rw [← hW, ← hN]; exact enAt_new _ _ _ _
  have q0 := hq.c0
  have HB0 := Lib.hid hb0
  have HQ := Lib.hid hq
  have HG := Lib.hid (hg.below hb0)
  obtain ⟨m, n, hc, hm⟩ := HG.out.cell
  have hz : ∀ W, (zeroValue 3).run Tryz.prog W = .ok (.int .i64 0) W := by intro W; kernel_rfl
  have HLK := Lib.hid (fun (W' : World) (hb : Below W.heap.size W W') (s : ByteArray) (hs : s.size ≤ 100000) => (MapS.look (hm.below hb) Tryz.underlying9 (t := 153) (e := 3) Tryz.underlying153 (hz W') (i := s) (by unfold maxLen; omega)).2)
  have HCE := Lib.hid (fun (W' : World) (hb : Below W.heap.size W W') => (hb.cell (p := ⟨P, 0, none⟩) HG.out.low.2).trans hc)
  have hcP := HCE.out W (Below.refl _ _)
  have hlk := HLK.out W (Below.refl _ _) x.1 (by omega)
  rw [kd_fnd hA] at hlk
  obtain ⟨kv, hkv⟩ : ∃ kv, ((fnd l x.1.data.toList).map fun e => Value.int .i64 e.2.1).getD (.int .i64 0) = kv := ⟨_, rfl⟩
  obtain ⟨g0, hg0⟩ : ∃ g0, ((fnd l x.1.data.toList).map fun e => Value.int .i64 e.2.1).isSome = g0 := ⟨_, rfl⟩
  rw [hkv, hg0] at hlk
  have HGO := Lib.hid (show goes l x = (g0 || gup l (par9 (pl x))) by rw [goes_gup hx, ← hg0, Option.isSome_map])
  have HGU := Lib.hid (fun (p : List UInt8) (hp : isP p) (h1 : p ≠ [47]) => gup_step (l := l) hA hp h1)
  have HGR := Lib.hid (gup_root hr)
  have HGA := Lib.hid (fun p => kd_fnd hA p)
  obtain ⟨R, hR⟩ : ∃ R, goes l x = R := ⟨_, rfl⟩
  rw [hR] at HGO ⊢
  clear hg hA hr hx p1 p2 hb0 hq hm hc h54 hkv hg0 hR
  go_enter Tryz.func106, Tryz.ntmps106
  go_wp2_with fail
  refine (par10 x.1 HP1.out _).mono ?_
  rintro e w1 ⟨d, nm1, er, rfl, ho, hb⟩
  obtain ⟨h9, _⟩ | ⟨_, rfl, hd⟩ := ho
  · exact absurd h9 HP2.out
  have HB1 := Lib.hid (HB0.out.trans (hb.mono HB0.out.size))
  have HW1 := Lib.hid hb
  have HD := Lib.hid hd
  clear hb hd q0 hcP hlk
  go_wp2
  go_loopg [5, 6, 8] 55 (fun g s5 s6 s8 wr => ∃ (gv : Bool) (p : ByteArray), s5 = .bool gv ∧ s6 = .string p ∧ Hid (Below w.heap.size w wr) ∧ Hid (Below W.heap.size W wr) ∧ ((s8 = .nilIface ∧ p.size + 1 ≤ g ∧ p.size ≤ 54 ∧ Hid (isP p.data.toList ∧ R = (gv || gup l p.data.toList))) ∨ (∃ u y, s8 = .iface u y ∧ Hid (R = gv))))
  case atStart =>
    have h1 := HPP.out
    rw [← HD.out] at h1
    have h2 := isP_len h1.1
    rw [← Lib.size_eq] at h2
    exact ⟨g0, d, rfl, rfl, HB1.out, HW1.out, .inl ⟨rfl, by omega, by omega, h1.1, by rw [HGO.out, HD.out]⟩⟩
  case round =>
    obtain ⟨gv, p, rfl, rfl, HB, HW, ⟨rfl, hpg, hp54, HI⟩ | ⟨u, y, rfl, HI⟩⟩ := hrel
    · cases gv with
      | true =>
        go_wp2
        go_ret
        exact ⟨by rw [HI.out.2]; rfl, HB.out⟩
      | false =>
        have hcP := HCE.out wr HW.out
        have hlk := HLK.out wr HW.out p (by omega)
        rw [HGA.out p.data.toList] at hlk
        have HIR := Lib.hid (show R = gup l p.data.toList by rw [HI.out.2, Bool.false_or])
        cases hf : fnd l p.data.toList with
        | none =>
          rw [hf] at hlk
          have HT := Lib.hid (show gat l p.data.toList = false by unfold gat; rw [hf])
          simp only [Option.map_none, Option.getD_none, Option.isSome_none] at hlk
          clear hf
          go_wp2_with fail
          refine (par10 p HI.out.1 _).mono ?_
          rintro r w2 ⟨d2, nm2, er, rfl, ho, hb⟩
          have HB2 := Lib.hid (HB.out.trans (hb.mono HB.out.size))
          have HW2 := Lib.hid (HW.out.trans (hb.mono HW.out.size))
          clear hb hcP hlk
          rcases ho with ⟨h9, u, y, rfl⟩ | ⟨h9, rfl, hd2⟩
          · have HV := Lib.hid (show R = false by
              have h1 := HGR.out
              rw [← h9] at h1
              rw [HIR.out, h1.1, ← HT.out, h1.2])
            clear h9
            go_wp2
            go_roundg 0
            case measure => omega
            case rel => exact ⟨false, d2, by simp, rfl, HB2.out, HW2.out, .inr ⟨u, y, rfl, HV.out⟩⟩
          · have HV := Lib.hid (show isP d2.data.toList ∧ R = (false || gup l d2.data.toList) by
              rw [hd2]
              exact ⟨(par9_isP HI.out.1 h9).1, by rw [HIR.out, HGU.out _ HI.out.1 h9, HT.out]⟩)
            have HS := Lib.hid (show d2.size < p.size by
              rw [Lib.size_eq, Lib.size_eq, hd2]
              exact (par9_isP HI.out.1 h9).2)
            clear h9 hd2
            go_wp2
            go_roundg (gk - 1)
            case measure => have := HS.out; omega
            case rel => exact ⟨false, d2, by simp, rfl, HB2.out, HW2.out, .inl ⟨rfl, by have := HS.out; omega, by have := HS.out; omega, HV.out⟩⟩
        | some e =>
          rw [hf] at hlk
          have HT := Lib.hid (show gat l p.data.toList = (e.2.1 != 2) by unfold gat; rw [hf])
          simp only [Option.map_some, Option.getD_some, Option.isSome_some] at hlk
          clear hf
          go_wp2_with fail
          refine (par10 p HI.out.1 _).mono ?_
          rintro r w2 ⟨d2, nm2, er, rfl, ho, hb⟩
          have HB2 := Lib.hid (HB.out.trans (hb.mono HB.out.size))
          have HW2 := Lib.hid (HW.out.trans (hb.mono HW.out.size))
          clear hb hcP hlk
          rcases ho with ⟨h9, u, y, rfl⟩ | ⟨h9, rfl, hd2⟩
          · have HV := Lib.hid (show R = (e.2.1 != 2) by
              have h1 := HGR.out
              rw [← h9] at h1
              rw [HIR.out, h1.1, ← HT.out, h1.2])
            clear h9
            go_wp2
            go_roundg 0
            case measure => omega
            case rel => exact ⟨(e.2.1 != 2), d2, by simp, rfl, HB2.out, HW2.out, .inr ⟨u, y, rfl, HV.out⟩⟩
          · have HV := Lib.hid (show isP d2.data.toList ∧ R = ((e.2.1 != 2) || gup l d2.data.toList) by
              rw [hd2]
              exact ⟨(par9_isP HI.out.1 h9).1, by rw [HIR.out, HGU.out _ HI.out.1 h9, HT.out]⟩)
            have HS := Lib.hid (show d2.size < p.size by
              rw [Lib.size_eq, Lib.size_eq, hd2]
              exact (par9_isP HI.out.1 h9).2)
            clear h9 hd2
            go_wp2
            go_roundg (gk - 1)
            case measure => have := HS.out; omega
            case rel => exact ⟨(e.2.1 != 2), d2, by simp, rfl, HB2.out, HW2.out, .inl ⟨rfl, by have := HS.out; omega, by have := HS.out; omega, HV.out⟩⟩
    · go_wp2
      go_ret
      exact ⟨by rw [HI.out]; rfl, HB.out⟩
end Go.Proofs.YtemnlolkmjdefaaGreatDoor
