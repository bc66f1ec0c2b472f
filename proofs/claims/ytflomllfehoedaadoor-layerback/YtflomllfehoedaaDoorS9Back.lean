/-
  The law LayerBack walked over Layer9: for every list of entries, place and byte it returns true and changes nothing that was there. Conditions: package layer answers as Layer9 says; the list lies in memory; errorType holds error's type.
-/
import Derived.Test.YtflomllfehoedaaDoorPk7
import Derived.Test.YtflomllfehoedaaDoorS9Belows
import Derived.Test.YtflomllfehoedaaDoorBytesOf
namespace Go.Proofs.YtflomllfehoedaaDoor
open Go.RowKit

theorem xor_ne {x c : UInt8} (h : c ≠ 0) : x ^^^ c ≠ x := fun e => by
  have h1 : x ^^^ (x ^^^ c) = x ^^^ x := by rw [e]
  rw [← UInt8.xor_assoc, UInt8.xor_self, UInt8.zero_xor] at h1
  exact h h1
/-- With one byte changed it is no layer's text. -/
theorem lay_changed {l m : List Ent} {i : Nat} {y : UInt8} (hi : i < (layL l).data.toList.length) (hy : y ≠ (layL l).data.toList[i]) : (⟨((layL l).data.toList.set i y).toArray⟩ : ByteArray) ≠ layL m := fun e => by
  have h1 := congrArg (fun b : ByteArray => b.data.toList) e
  simp only at h1
  have hl := layL_list l
  rw [layL_list m] at h1
  have h2 : i < (layT (layB l)).length := by rw [← hl]; exact hi
  refine layT_set (layB l) (layB m) i y h2 (fun e2 => hy ?_) ?_
  · rw [← hl, List.getElem?_eq_getElem hi] at e2
    exact (Option.some.inj e2).symm
  · rw [← h1, ← hl]
set_option maxRecDepth 10000 in
set_option maxHeartbeats 4000000 in
theorem lawBack (L : Layer9) (l : List Ent) (a : Option Addr) (cap : Nat) (n : Nat) (c : UInt8) (W : World) (hg : EtLaid W) (h : Ents W a cap l) (hn : n < 65536) : Calls Tryd.prog 3 #[.slice a l.length cap, .int .u16 n, .int .u8 (c.toNat : Int)] W fun e w' => e = .returned (.bool true) ∧ Below W.heap.size W w' := by
  have HS0 := Lib.hid (st_self hg)
  have HE := Lib.hid h
  clear hg h
  by_cases hz : SizeOK l
  · have HSm := Lib.hid (sm_size hz)
    have hZ1 : (if SizeOK l then (1 : Int) else 0) = 1 := if_pos hz
    clear hz
    by_cases hr : RightL l
    · have HR := Lib.hid hr
      have HL := Lib.hid hr.1
      have hV : lyV l = (0, layL l) := if_pos hr
      obtain ⟨s, hs⟩ : ∃ s, layL l = s := ⟨_, rfl⟩
      have HSL := Lib.hid hs
      have HPS := Lib.hid (show 4 < s.size ∧ s.size ≤ 21604 by rw [← hs]; exact ⟨layL_pos l, layL_size hr⟩)
      rw [hs] at hV
      have HV := Lib.hid hV
      clear hr hs hV
      go_enter Tryd.func3, Tryd.ntmps3
      go_wp2_with fail
      refine (awake9 L _ HS0.out.et).mono ?_
      rintro e w1 ⟨rfl, hb⟩
      have HS1 := Lib.hid (HS0.out.next hb)
      replace HE := Lib.hid (HE.out.below hb)
      clear hb
      go_wp2_with fail
      refine (size9 l a cap _ HE.out).mono ?_
      rintro e w9 ⟨rfl, rfl⟩
      rw [hZ1]
      go_wp2_with fail
      refine (L.lay l a cap _ HS1.out.et HE.out HSm.out).mono ?_
      rintro e w2 ⟨er, rfl, hEr, hb⟩
      have HS2 := Lib.hid (HS1.out.next hb)
      replace HE := Lib.hid (HE.out.below hb)
      have HEr := Lib.hid hEr
      clear hEr
      clear hb
      rw [HV.out] at HEr ⊢
      go_wp2_with fail
      refine (code_er _ _ _ HEr.out HS2.out.et).mono ?_
      rintro e w3 ⟨rfl, hb⟩
      have HS3 := Lib.hid (HS2.out.next hb)
      replace HE := Lib.hid (HE.out.below hb)
      clear hb
      go_wp2_with fail
      refine (L.read s _ HS3.out.et (by have := HPS.out; omega)).mono ?_
      rintro e w4 ⟨a2, cap2, er2, l2, n2, rfl, hE2, hEr2, hc, hb⟩
      have HS4 := Lib.hid (HS3.out.next hb)
      replace HE := Lib.hid (HE.out.below hb)
      have HE2 := Lib.hid hE2
      have HEr2 := Lib.hid hEr2
      clear hE2 hEr2
      clear hb
      have hc' : n2 = 0 ∧ RightL l2 ∧ s = layL l2 := by
        rcases hc with hc | ⟨_, _, hno⟩
        · exact hc
        · exact absurd HSL.out.symm (hno l HR.out)
      obtain ⟨rfl, hr2, hs2⟩ := hc'
      clear hc
      obtain rfl : l2 = l := by
        refine layL_inj hr2 HR.out ?_
        rw [HSL.out, ← hs2]
      clear hr2 hs2
      have h3 : ((s.size : Int) == 0) = false := by rw [beq_eq_false_iff_ne]; have := HPS.out; omega
      have h4 : 0 < s.size := by have := HPS.out; omega
      have h5 : (0 : Int) < (s.size : Int) := by omega
      have hi : n % s.size < s.data.toList.length := by rw [← Lib.size_eq]; exact Nat.mod_lt _ h4
      have hi2 : n % s.size < s.size := Nat.mod_lt _ h4
      obtain ⟨cp, w5, cv1, hb5, hh⟩ := conv_in s w4
      obtain ⟨hc, hf⟩ := hh.2 _ hi
      have hx := xor_u8 s.data.toList[n % s.size] c
      have HHS := Lib.hid (hh.set _ hi (s.data.toList[n % s.size] ^^^ c))
      have cv2 := conv_back _ w4.heap.size cp _ s.size (by rw [List.length_set, ← Lib.size_eq]) HHS.out
      have hb6 := hb5.setCell (p := ⟨w4.heap.size, n % s.size, none⟩) (Nat.le_refl _) (.int .u8 ((s.data.toList[n % s.size] ^^^ c).toNat : Int))
      have HS6 := Lib.hid (HS4.out.next hb6)
      have HB6 := Lib.hid hb6
      have HCH := Lib.hid (show (c = 0 ∧ (⟨(s.data.toList.set (n % s.size) (s.data.toList[n % s.size] ^^^ c)).toArray⟩ : ByteArray) = s) ∨ (c ≠ 0 ∧ ∀ m, (⟨(s.data.toList.set (n % s.size) (s.data.toList[n % s.size] ^^^ c)).toArray⟩ : ByteArray) ≠ layL m) by
        by_cases h0 : c = 0
        · refine .inl ⟨h0, ba_ext ?_⟩
          rw [h0, UInt8.xor_zero]
          exact List.set_getElem_self hi
        · refine .inr ⟨h0, fun m => ?_⟩
          have hs' := HSL.out
          subst hs'
          exact lay_changed hi (xor_ne h0))
      have HSZ := Lib.hid (show (⟨(s.data.toList.set (n % s.size) (s.data.toList[n % s.size] ^^^ c)).toArray⟩ : ByteArray).size ≤ 100000 by
        rw [Lib.size_eq]
        simp only [List.length_set]
        rw [← Lib.size_eq]
        have := HPS.out
        omega)
      clear hb5 hh hb6
      generalize s.data.toList[n % s.size] = x at *
      generalize hy : x ^^^ c = y at *
      clear hy
      replace HE := Lib.hid (HE.out.below HB6.out)
      replace HE2 := Lib.hid (HE2.out.below HB6.out)
      replace HEr2 := Lib.hid (HEr2.out.below HB6.out)
      obtain ⟨t, ht⟩ : ∃ t : ByteArray, ⟨(s.data.toList.set (n % s.size) y).toArray⟩ = t := ⟨_, rfl⟩
      rw [ht] at cv2 HCH HSZ
      clear ht HHS
      go_wp2_with fail
      refine (L.read t _ HS6.out.et HSZ.out).mono ?_
      rintro e w7 ⟨a3, cap3, er3, l3, n3, rfl, hE3, hEr3, hc3, hb⟩
      have HS7 := Lib.hid (HS6.out.next hb)
      replace HE := Lib.hid (HE.out.below hb)
      replace HE2 := Lib.hid (HE2.out.below hb)
      replace HEr2 := Lib.hid (HEr2.out.below hb)
      have HEr3 := Lib.hid hEr3
      clear hb cv1 cv2 hc hf hx hE3 hEr3
      go_wp2_with fail
      refine (code_er _ _ _ HEr2.out HS7.out.et).mono ?_
      rintro e w8 ⟨rfl, hb⟩
      have HS8 := Lib.hid (HS7.out.next hb)
      replace HE := Lib.hid (HE.out.below hb)
      replace HE2 := Lib.hid (HE2.out.below hb)
      replace HEr3 := Lib.hid (HEr3.out.below hb)
      clear hb
      go_wp2_with fail
      refine (same9 l2 l2 a2 a cap2 cap _ HE2.out HE.out (by have := HL.out; unfold maxLen; omega)).mono ?_
      rintro e w9 ⟨rfl, hb⟩
      have HS9 := Lib.hid (HS8.out.next hb)
      replace HEr3 := Lib.hid (HEr3.out.below hb)
      clear hb
      rw [if_pos rfl]
      rcases HCH.out with ⟨rfl, ht⟩ | ⟨h0, ht⟩
      · obtain rfl : n3 = 0 := by
          rcases hc3 with ⟨rfl, _⟩ | ⟨_, _, hno⟩
          · rfl
          · exact absurd (ht.trans HSL.out.symm) (hno l2 HR.out)
        clear hc3 ht HCH
        go_wp2_with fail
        refine (code_er _ _ _ HEr3.out HS9.out.et).mono ?_
        rintro e w10 ⟨rfl, hb⟩
        have HS10 := Lib.hid (HS9.out.next hb)
        clear hb
        go_wp2
        go_ret
        exact ⟨by first | rfl | simp, HS10.out.below⟩
      · have hl3 : l3 = [] ∧ (n3 = 12 ∨ n3 = 13) := by
          rcases hc3 with ⟨_, _, h⟩ | ⟨h1, h2, _⟩
          · exact absurd h (ht l3)
          · exact ⟨h2, h1⟩
        obtain ⟨rfl, hn3⟩ := hl3
        have hc0 : ((c.toNat : Int) == 0) = false := by
          rw [beq_eq_false_iff_ne]
          intro e
          exact h0 (UInt8.toNat_inj.1 (by show c.toNat = 0; omega))
        have hc1 : ¬ (c.toNat : Int) = 0 := by simpa using hc0
        have hc2 : ((c.toNat : Int) != 0) = true := by rw [bne, hc0]; rfl
        clear hc3 ht HCH h0
        rcases hn3 with rfl | rfl
        all_goals
          go_wp2_with fail
          refine (code_er _ _ _ HEr3.out HS9.out.et).mono ?_
          rintro e w10 ⟨rfl, hb⟩
          have HS10 := Lib.hid (HS9.out.next hb)
          clear hb
          go_wp2
          go_ret
          exact ⟨by first | rfl | simp, HS10.out.below⟩
    · have hr1 : decide (RightL l) = false := decide_eq_false hr
      have HV := Lib.hid (show lyV l = (1, ⟨#[]⟩) from if_neg hr)
      clear hr
      go_enter Tryd.func3, Tryd.ntmps3
      go_wp2_with fail
      refine (awake9 L _ HS0.out.et).mono ?_
      rintro e w1 ⟨rfl, hb⟩
      have HS1 := Lib.hid (HS0.out.next hb)
      replace HE := Lib.hid (HE.out.below hb)
      clear hb
      go_wp2_with fail
      refine (size9 l a cap _ HE.out).mono ?_
      rintro e w9 ⟨rfl, rfl⟩
      rw [hZ1]
      go_wp2_with fail
      refine (L.lay l a cap _ HS1.out.et HE.out HSm.out).mono ?_
      rintro e w2 ⟨er, rfl, hEr, hb⟩
      have HS2 := Lib.hid (HS1.out.next hb)
      replace HE := Lib.hid (HE.out.below hb)
      have HEr := Lib.hid hEr
      clear hEr
      clear hb
      rw [HV.out] at HEr ⊢
      go_wp2_with fail
      refine (code_er _ _ _ HEr.out HS2.out.et).mono ?_
      rintro e w3 ⟨rfl, hb⟩
      have HS3 := Lib.hid (HS2.out.next hb)
      replace HE := Lib.hid (HE.out.below hb)
      replace HEr := Lib.hid (HEr.out.below hb)
      clear hb
      go_wp2_with fail
      refine (code_er _ _ _ HEr.out HS3.out.et).mono ?_
      rintro e w4 ⟨rfl, hb⟩
      have HS4 := Lib.hid (HS3.out.next hb)
      replace HE := Lib.hid (HE.out.below hb)
      clear hb
      go_wp2_with fail
      refine (L.right l a cap _ HS4.out.et HE.out HSm.out).mono ?_
      rintro e w5 ⟨rfl, hb⟩
      have HS5 := Lib.hid (HS4.out.next hb)
      clear hb
      rw [hr1]
      go_wp2
      go_ret
      exact ⟨by first | rfl | simp, HS5.out.below⟩
  · have hZ1 : (if SizeOK l then (1 : Int) else 0) = 0 := if_neg hz
    clear hz
    go_enter Tryd.func3, Tryd.ntmps3
    go_wp2_with fail
    refine (awake9 L _ HS0.out.et).mono ?_
    rintro e w1 ⟨rfl, hb⟩
    have HS1 := Lib.hid (HS0.out.next hb)
    replace HE := Lib.hid (HE.out.below hb)
    clear hb
    go_wp2_with fail
    refine (size9 l a cap _ HE.out).mono ?_
    rintro e w9 ⟨rfl, rfl⟩
    rw [hZ1]
    go_wp2_with fail
    refine (awake9 L _ HS1.out.et).mono ?_
    rintro e w2 ⟨rfl, hb⟩
    have HS2 := Lib.hid (HS1.out.next hb)
    clear hb
    go_wp2
    go_ret
    exact ⟨by first | rfl | simp, HS2.out.below⟩
theorem back_end (L : Layer9) (l : List Ent) (a : Option Addr) (cap : Nat) (n b : Int) (W : World) (hg : EtLaid W) (h : Ents W a cap l) (hn : 0 ≤ n ∧ n ≤ 65535) (hb : 0 ≤ b ∧ b ≤ 255) : Calls Tryd.prog 3 #[.slice a l.length cap, .int .u16 n, .int .u8 b] W fun e w' => e = .returned (.bool true) ∧ Below W.heap.size W w' := by
  have e1 : n = (n.toNat : Int) := by omega
  have e2 : b = ((UInt8.ofNat b.toNat).toNat : Int) := by
    have : (UInt8.ofNat b.toNat).toNat = b.toNat := by simp; omega
    omega
  rw [e1, e2]
  exact lawBack L l a cap n.toNat (UInt8.ofNat b.toNat) W hg h (by omega)
end Go.Proofs.YtflomllfehoedaaDoor
