/-
  The law TreeBacks walked over Tree11: for every tree and two texts it returns true and changes nothing that was there. Conditions: package tree answers as Tree11 says; the tree lies in memory; errorType holds error's type.
-/
import Derived.Test.YtgpipljhpkhffaaDoorS11Awake
namespace Go.Proofs.YtgpipljhpkhffaaDoor
open Go.RowKit

set_option maxRecDepth 10000 in
set_option maxHeartbeats 8000000 in
theorem lawBacks (L : Tree11) (t : List Ent) (a : Option Addr) (cap : Nat) (p q : ByteArray) (W : World) (hg : EtLaid W) (h : Ents W a cap t) : Calls Tryd.prog 4 #[.slice a t.length cap, .string p, .string q] W fun e w' => e = .returned (.bool true) ∧ Below W.heap.size W w' := by
  have HS0 := Lib.hid (st_self hg)
  have HE := Lib.hid h
  clear hg h
  by_cases hz : SizeOK t
  · have HSM := Lib.hid (sm_size hz)
    have HL7 := Lib.hid hz.1
    by_cases hp : (100 : Int) < (p.size : Int)
    · go_enter Tryd.func4, Tryd.ntmps4
      go_wp2_with fail
      refine (awake11 L _ HS0.out.et).mono ?_
      rintro e w1 ⟨rfl, hb⟩
      have HS1 := Lib.hid (HS0.out.next hb)
      replace HE := Lib.hid (HE.out.below hb)
      clear hb
      go_wp2_with fail
      refine (size9 t a cap _ HE.out).mono ?_
      rintro e w9 ⟨rfl, rfl⟩
      rw [if_pos hz]
      go_wp2_with fail
      refine (awake11 L _ HS1.out.et).mono ?_
      rintro e w2 ⟨rfl, hb⟩
      have HS2 := Lib.hid (HS1.out.next hb)
      replace HE := Lib.hid (HE.out.below hb)
      clear hb
      go_wp2
      go_ret
      exact ⟨by first | rfl | simp, HS2.out.below⟩
    · by_cases hq : (100 : Int) < (q.size : Int)
      · go_enter Tryd.func4, Tryd.ntmps4
        go_wp2_with fail
        refine (awake11 L _ HS0.out.et).mono ?_
        rintro e w1 ⟨rfl, hb⟩
        have HS1 := Lib.hid (HS0.out.next hb)
        replace HE := Lib.hid (HE.out.below hb)
        clear hb
        go_wp2_with fail
        refine (size9 t a cap _ HE.out).mono ?_
        rintro e w9 ⟨rfl, rfl⟩
        rw [if_pos hz]
        go_wp2_with fail
        refine (awake11 L _ HS1.out.et).mono ?_
        rintro e w2 ⟨rfl, hb⟩
        have HS2 := Lib.hid (HS1.out.next hb)
        replace HE := Lib.hid (HE.out.below hb)
        clear hb
        go_wp2
        go_ret
        exact ⟨by first | rfl | simp, HS2.out.below⟩
      · by_cases ht : TreeL t
        · have HT := Lib.hid ht
          have HP := Lib.hid (show p.size ≤ 100 by omega)
          have HQ := Lib.hid (show q.size ≤ 100 by omega)
          obtain ⟨r, hr⟩ : ∃ r, mkV t p 2 = r := ⟨_, rfl⟩
          have HR := Lib.hid hr
          have HMD := Lib.hid (fun h => made_dir (p := p) HT.out h)
          rw [hr] at HMD
          clear hr
          obtain ⟨n1, X⟩ := r
          go_enter Tryd.func4, Tryd.ntmps4
          go_wp2_with fail
          refine (awake11 L _ HS0.out.et).mono ?_
          rintro e w1 ⟨rfl, hb⟩
          have HS1 := Lib.hid (HS0.out.next hb)
          replace HE := Lib.hid (HE.out.below hb)
          clear hb
          go_wp2_with fail
          refine (size9 t a cap _ HE.out).mono ?_
          rintro e w9 ⟨rfl, rfl⟩
          rw [if_pos hz]
          go_wp2_with fail
          refine (L.tree t a cap _ HS1.out.et HE.out HSM.out).mono ?_
          rintro e w2 ⟨rfl, hb⟩
          have HS2 := Lib.hid (HS1.out.next hb)
          replace HE := Lib.hid (HE.out.below hb)
          clear hb
          rw [decide_eq_true ht]
          go_wp2_with fail
          refine (L.mkdir t a cap p _ HS2.out.et HE.out HT.out (by have := HL7.out; omega) (by have := HP.out; omega)).mono ?_
          rw [HR.out]
          rintro e w3 ⟨a1, c1, er1, rfl, h9, e9, hb⟩
          have HS3 := Lib.hid (HS2.out.next hb)
          replace HE := Lib.hid (HE.out.below hb)
          clear hb
          have HX := Lib.hid h9
          have Her1 := Lib.hid e9
          clear h9 e9
          go_wp2_with fail
          refine (code_er _ _ _ Her1.out HS3.out.et).mono ?_
          rintro e w4 ⟨rfl, hb⟩
          have HS4 := Lib.hid (HS3.out.next hb)
          replace HE := Lib.hid (HE.out.below hb)
          replace HX := Lib.hid (HX.out.below hb)
          replace Her1 := Lib.hid (Her1.out.below hb)
          clear hb
          by_cases h1 : n1 = 0
          · subst h1
            obtain ⟨b1, b2, b3, b4⟩ := HMD.out rfl
            have HRM := Lib.hid b4
            obtain rfl : X = _ := (Prod.mk.inj b1).2
            obtain ⟨X, hX⟩ : ∃ X, wth t (p, 2, ⟨#[]⟩) = X := ⟨_, rfl⟩
            rw [hX] at HRM b2 b3 HX ⊢
            have HTX := Lib.hid b2
            have HLX := Lib.hid b3
            clear b1 b2 b3 b4 hX HMD HR
            go_wp2_with fail
            refine (L.rmdir X _ _ p _ HS4.out.et HX.out HTX.out (by have := HLX.out; have := HL7.out; omega) (by have := HP.out; omega)).mono ?_
            rw [HRM.out]
            rintro e w5 ⟨a2, c2, er2, rfl, h9, e9, hb⟩
            have HS5 := Lib.hid (HS4.out.next hb)
            replace HE := Lib.hid (HE.out.below hb)
            replace HX := Lib.hid (HX.out.below hb)
            replace Her1 := Lib.hid (Her1.out.below hb)
            clear hb
            have HY := Lib.hid h9
            have Her2 := Lib.hid e9
            clear h9 e9
            go_wp2_with fail
            refine (code_er _ _ _ Her2.out HS5.out.et).mono ?_
            rintro e w6 ⟨rfl, hb⟩
            have HS6 := Lib.hid (HS5.out.next hb)
            replace HE := Lib.hid (HE.out.below hb)
            replace HX := Lib.hid (HX.out.below hb)
            replace Her1 := Lib.hid (Her1.out.below hb)
            replace HY := Lib.hid (HY.out.below hb)
            replace Her2 := Lib.hid (Her2.out.below hb)
            clear hb
            go_wp2_with fail
            refine (same9 _ _ _ _ _ _ _ HY.out HE.out (by have := HL7.out; unfold maxLen; omega)).mono ?_
            rintro e w7 ⟨rfl, hb⟩
            have HS7 := Lib.hid (HS6.out.next hb)
            replace HE := Lib.hid (HE.out.below hb)
            replace HX := Lib.hid (HX.out.below hb)
            replace Her1 := Lib.hid (Her1.out.below hb)
            replace HY := Lib.hid (HY.out.below hb)
            replace Her2 := Lib.hid (Her2.out.below hb)
            clear hb
            rw [if_pos rfl]
            obtain ⟨r, hr⟩ : ∃ r, rnV t p q = r := ⟨_, rfl⟩
            have HRN := Lib.hid hr
            have HRD := Lib.hid (fun h => renamed (p := p) (q := q) HT.out h)
            rw [hr] at HRD
            clear hr
            obtain ⟨n2, Z⟩ := r
            go_wp2_with fail
            refine (L.rename t a cap p q _ HS7.out.et HE.out HT.out (by have := HL7.out; omega) (by have := HP.out; omega) (by have := HQ.out; omega)).mono ?_
            rw [HRN.out]
            rintro e w8 ⟨a3, c3, er3, rfl, h9, e9, hb⟩
            have HS8 := Lib.hid (HS7.out.next hb)
            replace HE := Lib.hid (HE.out.below hb)
            replace HX := Lib.hid (HX.out.below hb)
            replace Her1 := Lib.hid (Her1.out.below hb)
            replace HY := Lib.hid (HY.out.below hb)
            replace Her2 := Lib.hid (Her2.out.below hb)
            clear hb
            have HZ := Lib.hid h9
            have Her3 := Lib.hid e9
            clear h9 e9
            go_wp2_with fail
            refine (code_er _ _ _ Her3.out HS8.out.et).mono ?_
            rintro e w9 ⟨rfl, hb⟩
            have HS9 := Lib.hid (HS8.out.next hb)
            replace HE := Lib.hid (HE.out.below hb)
            replace HX := Lib.hid (HX.out.below hb)
            replace Her1 := Lib.hid (Her1.out.below hb)
            replace HY := Lib.hid (HY.out.below hb)
            replace Her2 := Lib.hid (Her2.out.below hb)
            replace HZ := Lib.hid (HZ.out.below hb)
            replace Her3 := Lib.hid (Her3.out.below hb)
            clear hb
            by_cases h2 : n2 = 0
            · subst h2
              obtain ⟨b1, b2, b3, b4, b5⟩ := HRD.out rfl
              have HBK := Lib.hid (renamed_back HT.out b1 b2)
              obtain rfl : Z = _ := (Prod.mk.inj b3).2
              obtain ⟨Z, hZ⟩ : ∃ Z, wth (wout t p.data.toList) (q, 1, datV t p.data.toList) = Z := ⟨_, rfl⟩
              rw [hZ] at HBK b4 b5 HZ ⊢
              have HTZ := Lib.hid b4
              have HLZ := Lib.hid b5
              clear b1 b2 b3 b4 b5 hZ HRD HRN
              go_wp2_with fail
              refine (L.rename Z _ _ q p _ HS9.out.et HZ.out HTZ.out (by have := HLZ.out; have := HL7.out; omega) (by have := HQ.out; omega) (by have := HP.out; omega)).mono ?_
              rw [HBK.out]
              rintro e w10 ⟨a4, c4, er4, rfl, h9, e9, hb⟩
              have HS10 := Lib.hid (HS9.out.next hb)
              replace HE := Lib.hid (HE.out.below hb)
              replace HX := Lib.hid (HX.out.below hb)
              replace Her1 := Lib.hid (Her1.out.below hb)
              replace HY := Lib.hid (HY.out.below hb)
              replace Her2 := Lib.hid (Her2.out.below hb)
              replace HZ := Lib.hid (HZ.out.below hb)
              replace Her3 := Lib.hid (Her3.out.below hb)
              clear hb
              have HWW := Lib.hid h9
              have Her4 := Lib.hid e9
              clear h9 e9
              go_wp2_with fail
              refine (code_er _ _ _ Her4.out HS10.out.et).mono ?_
              rintro e w11 ⟨rfl, hb⟩
              have HS11 := Lib.hid (HS10.out.next hb)
              replace HE := Lib.hid (HE.out.below hb)
              replace HX := Lib.hid (HX.out.below hb)
              replace Her1 := Lib.hid (Her1.out.below hb)
              replace HY := Lib.hid (HY.out.below hb)
              replace Her2 := Lib.hid (Her2.out.below hb)
              replace HZ := Lib.hid (HZ.out.below hb)
              replace Her3 := Lib.hid (Her3.out.below hb)
              replace HWW := Lib.hid (HWW.out.below hb)
              replace Her4 := Lib.hid (Her4.out.below hb)
              clear hb
              go_wp2_with fail
              refine (same9 _ _ _ _ _ _ _ HWW.out HE.out (by have := HL7.out; unfold maxLen; omega)).mono ?_
              rintro e w12 ⟨rfl, hb⟩
              have HS12 := Lib.hid (HS11.out.next hb)
              replace HE := Lib.hid (HE.out.below hb)
              replace HX := Lib.hid (HX.out.below hb)
              replace Her1 := Lib.hid (Her1.out.below hb)
              replace HY := Lib.hid (HY.out.below hb)
              replace Her2 := Lib.hid (Her2.out.below hb)
              replace HZ := Lib.hid (HZ.out.below hb)
              replace Her3 := Lib.hid (Her3.out.below hb)
              replace HWW := Lib.hid (HWW.out.below hb)
              replace Her4 := Lib.hid (Her4.out.below hb)
              clear hb
              rw [if_pos rfl]
              go_wp2
              go_ret
              exact ⟨by first | rfl | simp, HS12.out.below⟩
            · have g3 : ((n2 : Int) == 0) = false := beq_eq_false_iff_ne.2 h2
              clear h2
              go_wp2
              go_ret
              exact ⟨by first | rfl | simp, HS9.out.below⟩
          · have g1 : ((n1 : Int) == 0) = false := beq_eq_false_iff_ne.2 h1
            clear h1 HMD
            obtain ⟨r, hr⟩ : ∃ r, rnV t p q = r := ⟨_, rfl⟩
            have HRN := Lib.hid hr
            have HRD := Lib.hid (fun h => renamed (p := p) (q := q) HT.out h)
            rw [hr] at HRD
            clear hr
            obtain ⟨n2, Z⟩ := r
            go_wp2_with fail
            refine (L.rename t a cap p q _ HS4.out.et HE.out HT.out (by have := HL7.out; omega) (by have := HP.out; omega) (by have := HQ.out; omega)).mono ?_
            rw [HRN.out]
            rintro e w5 ⟨a3, c3, er3, rfl, h9, e9, hb⟩
            have HS5 := Lib.hid (HS4.out.next hb)
            replace HE := Lib.hid (HE.out.below hb)
            replace HX := Lib.hid (HX.out.below hb)
            replace Her1 := Lib.hid (Her1.out.below hb)
            clear hb
            have HZ := Lib.hid h9
            have Her3 := Lib.hid e9
            clear h9 e9
            go_wp2_with fail
            refine (code_er _ _ _ Her3.out HS5.out.et).mono ?_
            rintro e w6 ⟨rfl, hb⟩
            have HS6 := Lib.hid (HS5.out.next hb)
            replace HE := Lib.hid (HE.out.below hb)
            replace HX := Lib.hid (HX.out.below hb)
            replace Her1 := Lib.hid (Her1.out.below hb)
            replace HZ := Lib.hid (HZ.out.below hb)
            replace Her3 := Lib.hid (Her3.out.below hb)
            clear hb
            by_cases h2 : n2 = 0
            · subst h2
              obtain ⟨b1, b2, b3, b4, b5⟩ := HRD.out rfl
              have HBK := Lib.hid (renamed_back HT.out b1 b2)
              obtain rfl : Z = _ := (Prod.mk.inj b3).2
              obtain ⟨Z, hZ⟩ : ∃ Z, wth (wout t p.data.toList) (q, 1, datV t p.data.toList) = Z := ⟨_, rfl⟩
              rw [hZ] at HBK b4 b5 HZ ⊢
              have HTZ := Lib.hid b4
              have HLZ := Lib.hid b5
              clear b1 b2 b3 b4 b5 hZ HRD HRN
              go_wp2_with fail
              refine (L.rename Z _ _ q p _ HS6.out.et HZ.out HTZ.out (by have := HLZ.out; have := HL7.out; omega) (by have := HQ.out; omega) (by have := HP.out; omega)).mono ?_
              rw [HBK.out]
              rintro e w7 ⟨a4, c4, er4, rfl, h9, e9, hb⟩
              have HS7 := Lib.hid (HS6.out.next hb)
              replace HE := Lib.hid (HE.out.below hb)
              replace HX := Lib.hid (HX.out.below hb)
              replace Her1 := Lib.hid (Her1.out.below hb)
              replace HZ := Lib.hid (HZ.out.below hb)
              replace Her3 := Lib.hid (Her3.out.below hb)
              clear hb
              have HWW := Lib.hid h9
              have Her4 := Lib.hid e9
              clear h9 e9
              go_wp2_with fail
              refine (code_er _ _ _ Her4.out HS7.out.et).mono ?_
              rintro e w8 ⟨rfl, hb⟩
              have HS8 := Lib.hid (HS7.out.next hb)
              replace HE := Lib.hid (HE.out.below hb)
              replace HX := Lib.hid (HX.out.below hb)
              replace Her1 := Lib.hid (Her1.out.below hb)
              replace HZ := Lib.hid (HZ.out.below hb)
              replace Her3 := Lib.hid (Her3.out.below hb)
              replace HWW := Lib.hid (HWW.out.below hb)
              replace Her4 := Lib.hid (Her4.out.below hb)
              clear hb
              go_wp2_with fail
              refine (same9 _ _ _ _ _ _ _ HWW.out HE.out (by have := HL7.out; unfold maxLen; omega)).mono ?_
              rintro e w9 ⟨rfl, hb⟩
              have HS9 := Lib.hid (HS8.out.next hb)
              replace HE := Lib.hid (HE.out.below hb)
              replace HX := Lib.hid (HX.out.below hb)
              replace Her1 := Lib.hid (Her1.out.below hb)
              replace HZ := Lib.hid (HZ.out.below hb)
              replace Her3 := Lib.hid (Her3.out.below hb)
              replace HWW := Lib.hid (HWW.out.below hb)
              replace Her4 := Lib.hid (Her4.out.below hb)
              clear hb
              rw [if_pos rfl]
              go_wp2
              go_ret
              exact ⟨by first | rfl | simp, HS9.out.below⟩
            · have g3 : ((n2 : Int) == 0) = false := beq_eq_false_iff_ne.2 h2
              clear h2
              go_wp2
              go_ret
              exact ⟨by first | rfl | simp, HS6.out.below⟩
        · go_enter Tryd.func4, Tryd.ntmps4
          go_wp2_with fail
          refine (awake11 L _ HS0.out.et).mono ?_
          rintro e w1 ⟨rfl, hb⟩
          have HS1 := Lib.hid (HS0.out.next hb)
          replace HE := Lib.hid (HE.out.below hb)
          clear hb
          go_wp2_with fail
          refine (size9 t a cap _ HE.out).mono ?_
          rintro e w9 ⟨rfl, rfl⟩
          rw [if_pos hz]
          go_wp2_with fail
          refine (L.tree t a cap _ HS1.out.et HE.out HSM.out).mono ?_
          rintro e w2 ⟨rfl, hb⟩
          have HS2 := Lib.hid (HS1.out.next hb)
          replace HE := Lib.hid (HE.out.below hb)
          clear hb
          rw [decide_eq_false ht]
          go_wp2_with fail
          refine (awake11 L _ HS2.out.et).mono ?_
          rintro e w3 ⟨rfl, hb⟩
          have HS3 := Lib.hid (HS2.out.next hb)
          replace HE := Lib.hid (HE.out.below hb)
          clear hb
          go_wp2
          go_ret
          exact ⟨by first | rfl | simp, HS3.out.below⟩
  · go_enter Tryd.func4, Tryd.ntmps4
    go_wp2_with fail
    refine (awake11 L _ HS0.out.et).mono ?_
    rintro e w1 ⟨rfl, hb⟩
    have HS1 := Lib.hid (HS0.out.next hb)
    replace HE := Lib.hid (HE.out.below hb)
    clear hb
    go_wp2_with fail
    refine (size9 t a cap _ HE.out).mono ?_
    rintro e w9 ⟨rfl, rfl⟩
    rw [if_neg hz]
    go_wp2_with fail
    refine (awake11 L _ HS1.out.et).mono ?_
    rintro e w2 ⟨rfl, hb⟩
    have HS2 := Lib.hid (HS1.out.next hb)
    replace HE := Lib.hid (HE.out.below hb)
    clear hb
    go_wp2
    go_ret
    exact ⟨by first | rfl | simp, HS2.out.below⟩
end Go.Proofs.YtgpipljhpkhffaaDoor
