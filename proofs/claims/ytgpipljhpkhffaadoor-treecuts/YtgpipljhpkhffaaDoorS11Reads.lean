/-
  The law TreeReads walked over Tree11: for every tree, texts and number it returns true and changes nothing that was there. Conditions: package tree answers as Tree11 says; the tree lies in memory; errorType holds error's type.
-/
import Derived.Test.YtgpipljhpkhffaaDoorS11Awake
import Derived.Test.YtgpipljhpkhffaaDoorS11SpecR
import Derived.IntWalk
namespace Go.Proofs.YtgpipljhpkhffaaDoor
open Go.RowKit

set_option maxRecDepth 10000 in
set_option maxHeartbeats 8000000 in
theorem lawReads11 (L : Tree11) (LR : Read11) (t : List Ent) (a : Option Addr) (cap : Nat) (p q : ByteArray) (n : Nat) (s : ByteArray) (W : World) (hg : EtLaid W) (h : Ents W a cap t) (hn : n < 256) : Calls Tryd.prog 3 #[.slice a t.length cap, .string p, .string q, .int .u8 (n : Int), .string s] W fun e w' => e = .returned (.bool true) ∧ Below W.heap.size W w' := by
  have HS0 := Lib.hid (st_self hg)
  have HE := Lib.hid h
  clear hg h
  by_cases hz : SizeOK t
  · have HSM := Lib.hid (sm_size hz)
    have HL7 := Lib.hid hz.1
    by_cases hp : (100 : Int) < (p.size : Int)
    · go_enter Tryd.func3, Tryd.ntmps3
      go_wp2_with fail
      refine (awake11 L _ HS0.out.et).mono ?_
      rintro e w1 ⟨rfl, hb⟩
      have HS1 := Lib.hid (HS0.out.next hb)
      replace HE := Lib.hid (HE.out.below hb)
      clear hb
      go_wp2_with fail
      refine (size9 t a cap _ HE.out).mono ?_
      rintro e w9 ⟨rfl, rfl⟩
      rw [if_pos hz]
      go_wp2_with fail
      refine (awake11 L _ HS1.out.et).mono ?_
      rintro e w2 ⟨rfl, hb⟩
      have HS2 := Lib.hid (HS1.out.next hb)
      replace HE := Lib.hid (HE.out.below hb)
      clear hb
      go_wp2
      go_ret
      exact ⟨by first | rfl | simp, HS2.out.below⟩
    · by_cases hq : (100 : Int) < (q.size : Int)
      · go_enter Tryd.func3, Tryd.ntmps3
        go_wp2_with fail
        refine (awake11 L _ HS0.out.et).mono ?_
        rintro e w1 ⟨rfl, hb⟩
        have HS1 := Lib.hid (HS0.out.next hb)
        replace HE := Lib.hid (HE.out.below hb)
        clear hb
        go_wp2_with fail
        refine (size9 t a cap _ HE.out).mono ?_
        rintro e w9 ⟨rfl, rfl⟩
        rw [if_pos hz]
        go_wp2_with fail
        refine (awake11 L _ HS1.out.et).mono ?_
        rintro e w2 ⟨rfl, hb⟩
        have HS2 := Lib.hid (HS1.out.next hb)
        replace HE := Lib.hid (HE.out.below hb)
        clear hb
        go_wp2
        go_ret
        exact ⟨by first | rfl | simp, HS2.out.below⟩
      · by_cases hs : (200 : Int) < (s.size : Int)
        · go_enter Tryd.func3, Tryd.ntmps3
          go_wp2_with fail
          refine (awake11 L _ HS0.out.et).mono ?_
          rintro e w1 ⟨rfl, hb⟩
          have HS1 := Lib.hid (HS0.out.next hb)
          replace HE := Lib.hid (HE.out.below hb)
          clear hb
          go_wp2_with fail
          refine (size9 t a cap _ HE.out).mono ?_
          rintro e w9 ⟨rfl, rfl⟩
          rw [if_pos hz]
          go_wp2_with fail
          refine (awake11 L _ HS1.out.et).mono ?_
          rintro e w2 ⟨rfl, hb⟩
          have HS2 := Lib.hid (HS1.out.next hb)
          replace HE := Lib.hid (HE.out.below hb)
          clear hb
          go_wp2
          go_ret
          exact ⟨by first | rfl | simp, HS2.out.below⟩
        · by_cases ht : TreeL t
          · have HT := Lib.hid ht
            have HP := Lib.hid (show p.size ≤ 100 by omega)
            have HQ := Lib.hid (show q.size ≤ 100 by omega)
            have HS := Lib.hid (show s.size ≤ 200 by omega)
            obtain ⟨r, hr⟩ : ∃ r, mkV t p 1 = r := ⟨_, rfl⟩
            have HR := Lib.hid hr
            have HMD := Lib.hid (fun h => made_file (p := p) HT.out h)
            have HST := Lib.hid (stays_mk HT.out p (k := 1) (.inl rfl))
            rw [hr] at HMD HST
            clear hr
            obtain ⟨n1, X⟩ := r
            go_enter Tryd.func3, Tryd.ntmps3
            go_wp2_with fail
            refine (awake11 L _ HS0.out.et).mono ?_
            rintro e w1 ⟨rfl, hb⟩
            have HS1 := Lib.hid (HS0.out.next hb)
            replace HE := Lib.hid (HE.out.below hb)
            clear hb
            go_wp2_with fail
            refine (size9 t a cap _ HE.out).mono ?_
            rintro e w9 ⟨rfl, rfl⟩
            rw [if_pos hz]
            go_wp2_with fail
            refine (L.tree t a cap _ HS1.out.et HE.out HSM.out).mono ?_
            rintro e w2 ⟨rfl, hb⟩
            have HS2 := Lib.hid (HS1.out.next hb)
            replace HE := Lib.hid (HE.out.below hb)
            clear hb
            rw [decide_eq_true ht]
            go_wp2_with fail
            refine (L.create t a cap p _ HS2.out.et HE.out HT.out (by have := HL7.out; omega) (by have := HP.out; omega)).mono ?_
            rw [HR.out]
            rintro e w3 ⟨a1, c1, er1, rfl, h9, e9, hb⟩
            have HS3 := Lib.hid (HS2.out.next hb)
            replace HE := Lib.hid (HE.out.below hb)
            clear hb
            have HX := Lib.hid h9
            have Her1 := Lib.hid e9
            clear h9 e9
            go_wp2_with fail
            refine (code_er _ _ _ Her1.out HS3.out.et).mono ?_
            rintro e w4 ⟨rfl, hb⟩
            have HS4 := Lib.hid (HS3.out.next hb)
            replace HE := Lib.hid (HE.out.below hb)
            replace HX := Lib.hid (HX.out.below hb)
            replace Her1 := Lib.hid (Her1.out.below hb)
            clear hb
            by_cases h1 : n1 = 0
            · subst h1
              obtain ⟨b1, b2, b3⟩ := HMD.out rfl
              have HPL := Lib.hid b2
              have HLX := Lib.hid (stays_tree HST.out).2
              obtain rfl : X = _ := (Prod.mk.inj b1).2
              have HRX := Lib.hid (file_in HT.out b2 ⟨#[]⟩).2.2
              have HUL := Lib.hid (fun s => unlink_file HT.out b2 s)
              have HWR := Lib.hid (write_file HT.out b2 n s)
              have HWN := Lib.hid (write_no HT.out b2 n s)
              have HYR := Lib.hid (fun s => (file_in HT.out b2 s))
              obtain ⟨X, hX⟩ : ∃ X, wth t (p, 1, ⟨#[]⟩) = X := ⟨_, rfl⟩
              rw [hX] at HRX HWR HWN HLX b3 HX ⊢
              have HTX := Lib.hid b3
              clear b1 b2 b3 hX HMD HR HST
              go_wp2_with fail
              refine (LR X _ _ p _ HS4.out.et HX.out HTX.out (by have := HLX.out; have := HL7.out; omega) (by have := HP.out; omega)).mono ?_
              rw [HRX.out]
              rintro e w5 ⟨er2, rfl, e9, hb⟩
              have HS5 := Lib.hid (HS4.out.next hb)
              replace HE := Lib.hid (HE.out.below hb)
              replace HX := Lib.hid (HX.out.below hb)
              replace Her1 := Lib.hid (Her1.out.below hb)
              clear hb
              have Her2 := Lib.hid e9
              clear e9
              have hw1 : IntKind.i64.wrap (n : Int) = (n : Int) := IntWalk.i64_in _ (by omega)
              have hw2 : IntKind.i64.wrap ((n : Int) + (s.size : Int)) = (n : Int) + (s.size : Int) := IntWalk.i64_in _ (by have := HS.out; omega)
              by_cases hb : n + s.size ≤ 256
              · have hb1 : (n : Int) + (s.size : Int) ≤ 256 := by omega
                have HWV := Lib.hid (HWR.out hb)
                have HSY := Lib.hid (stays_wr HTX.out p (n : Int) s)
                have HYD := Lib.hid (HYR.out (newD n s))
                have HUV := Lib.hid (HUL.out (newD n s))
                rw [HWV.out] at HSY
                obtain ⟨b1, b2⟩ := stays_tree HSY.out
                obtain ⟨D, hD⟩ : ∃ D, newD n s = D := ⟨_, rfl⟩
                have HDS := Lib.hid (newD_size n s)
                have HDE := Lib.hid (newD_end n s)
                rw [hD] at HDS HDE HYD HUV
                have hD2 : (⟨(padL [] n ++ s.data.toList).toArray⟩ : ByteArray) = D := hD
                rw [hD2] at HWV HSY b1 b2
                clear hD hD2
                obtain ⟨Y, hY⟩ : ∃ Y, wth t (p, 1, D) = Y := ⟨_, rfl⟩
                rw [hY] at HWV HSY HYD HUV b1 b2
                have HTY := Lib.hid b1
                have HLY := Lib.hid b2
                clear b1 b2 hY hb HSY
                go_wp2_with fail
                refine (L.write X _ _ p (n : Int) s _ HS5.out.et HX.out HTX.out (by have := HLX.out; have := HL7.out; omega) (by have := HP.out; omega) (by omega) (by have := HS.out; omega)).mono ?_
                rw [HWV.out]
                rintro e w6 ⟨a2, c2, er3, rfl, h9, e9, hb⟩
                have HS6 := Lib.hid (HS5.out.next hb)
                replace HE := Lib.hid (HE.out.below hb)
                replace HX := Lib.hid (HX.out.below hb)
                replace Her1 := Lib.hid (Her1.out.below hb)
                replace Her2 := Lib.hid (Her2.out.below hb)
                clear hb
                have HY := Lib.hid h9
                have Her3 := Lib.hid e9
                clear h9 e9
                go_wp2_with fail
                refine (code_er _ _ _ Her2.out HS6.out.et).mono ?_
                rintro e w7 ⟨rfl, hb⟩
                have HS7 := Lib.hid (HS6.out.next hb)
                replace HE := Lib.hid (HE.out.below hb)
                replace HX := Lib.hid (HX.out.below hb)
                replace Her1 := Lib.hid (Her1.out.below hb)
                replace Her2 := Lib.hid (Her2.out.below hb)
                replace HY := Lib.hid (HY.out.below hb)
                replace Her3 := Lib.hid (Her3.out.below hb)
                clear hb
                go_wp2_with fail
                refine (code_er _ _ _ Her3.out HS7.out.et).mono ?_
                rintro e w8 ⟨rfl, hb⟩
                have HS8 := Lib.hid (HS7.out.next hb)
                replace HE := Lib.hid (HE.out.below hb)
                replace HX := Lib.hid (HX.out.below hb)
                replace Her1 := Lib.hid (Her1.out.below hb)
                replace Her2 := Lib.hid (Her2.out.below hb)
                replace HY := Lib.hid (HY.out.below hb)
                replace Her3 := Lib.hid (Her3.out.below hb)
                clear hb
                go_wp2_with fail
                refine (code_er _ _ _ Her3.out HS8.out.et).mono ?_
                rintro e w9 ⟨rfl, hb⟩
                have HS9 := Lib.hid (HS8.out.next hb)
                replace HE := Lib.hid (HE.out.below hb)
                replace HX := Lib.hid (HX.out.below hb)
                replace Her1 := Lib.hid (Her1.out.below hb)
                replace Her2 := Lib.hid (Her2.out.below hb)
                replace HY := Lib.hid (HY.out.below hb)
                replace Her3 := Lib.hid (Her3.out.below hb)
                clear hb
                go_wp2_with fail
                refine (LR Y _ _ p _ HS9.out.et HY.out HTY.out (by have := HLY.out; have := HLX.out; have := HL7.out; omega) (by have := HP.out; omega)).mono ?_
                rw [HYD.out.2.2]
                rintro e w10 ⟨er4, rfl, e9, hb⟩
                have HS10 := Lib.hid (HS9.out.next hb)
                replace HE := Lib.hid (HE.out.below hb)
                replace HX := Lib.hid (HX.out.below hb)
                replace Her1 := Lib.hid (Her1.out.below hb)
                replace Her2 := Lib.hid (Her2.out.below hb)
                replace HY := Lib.hid (HY.out.below hb)
                replace Her3 := Lib.hid (Her3.out.below hb)
                clear hb
                have Her4 := Lib.hid e9
                clear e9
                have d1 : (D.size : Int) = (n : Int) + (s.size : Int) := by have := HDS.out; omega
                have d2 : ((D.extract n D.size).toList == s.toList) = true := by rw [HDE.out]; simp
                have d3 : (n : Int) ≤ (D.size : Int) := by omega
                go_wp2_with fail
                refine (code_er _ _ _ Her4.out HS10.out.et).mono ?_
                rintro e w11 ⟨rfl, hb⟩
                have HS11 := Lib.hid (HS10.out.next hb)
                replace HE := Lib.hid (HE.out.below hb)
                replace HX := Lib.hid (HX.out.below hb)
                replace Her1 := Lib.hid (Her1.out.below hb)
                replace Her2 := Lib.hid (Her2.out.below hb)
                replace HY := Lib.hid (HY.out.below hb)
                replace Her3 := Lib.hid (Her3.out.below hb)
                replace Her4 := Lib.hid (Her4.out.below hb)
                clear hb
                obtain ⟨r, hr⟩ : ∃ r, rnV Y p q = r := ⟨_, rfl⟩
                have HRN := Lib.hid hr
                have HRD := Lib.hid (fun h => renamed (p := p) (q := q) HTY.out h)
                rw [hr] at HRD
                clear hr
                obtain ⟨n2, Z⟩ := r
                go_wp2_with fail
                refine (L.rename Y _ _ p q _ HS11.out.et HY.out HTY.out (by have := HLY.out; have := HLX.out; have := HL7.out; omega) (by have := HP.out; omega) (by have := HQ.out; omega)).mono ?_
                rw [HRN.out]
                rintro e w12 ⟨a3, c3, er5, rfl, h9, e9, hb⟩
                have HS12 := Lib.hid (HS11.out.next hb)
                replace HE := Lib.hid (HE.out.below hb)
                replace HX := Lib.hid (HX.out.below hb)
                replace Her1 := Lib.hid (Her1.out.below hb)
                replace Her2 := Lib.hid (Her2.out.below hb)
                replace HY := Lib.hid (HY.out.below hb)
                replace Her3 := Lib.hid (Her3.out.below hb)
                replace Her4 := Lib.hid (Her4.out.below hb)
                clear hb
                have HZ := Lib.hid h9
                have Her5 := Lib.hid e9
                clear h9 e9
                go_wp2_with fail
                refine (code_er _ _ _ Her5.out HS12.out.et).mono ?_
                rintro e w13 ⟨rfl, hb⟩
                have HS13 := Lib.hid (HS12.out.next hb)
                replace HE := Lib.hid (HE.out.below hb)
                replace HX := Lib.hid (HX.out.below hb)
                replace Her1 := Lib.hid (Her1.out.below hb)
                replace Her2 := Lib.hid (Her2.out.below hb)
                replace HY := Lib.hid (HY.out.below hb)
                replace Her3 := Lib.hid (Her3.out.below hb)
                replace Her4 := Lib.hid (Her4.out.below hb)
                replace HZ := Lib.hid (HZ.out.below hb)
                replace Her5 := Lib.hid (Her5.out.below hb)
                clear hb
                by_cases h2 : n2 = 0
                · subst h2
                  obtain ⟨b1, b2, b3, b4, b5⟩ := HRD.out rfl
                  have HRR := Lib.hid (renamed_read HTY.out b1 b2)
                  obtain rfl : Z = _ := (Prod.mk.inj b3).2
                  rw [HYD.out.2.1] at HRR b4 b5 HZ ⊢
                  obtain ⟨Z, hZ⟩ : ∃ Z, wth (wout Y p.data.toList) (q, 1, D) = Z := ⟨_, rfl⟩
                  rw [hZ] at HRR b4 b5 HZ ⊢
                  have HTZ := Lib.hid b4
                  have HLZ := Lib.hid b5
                  clear b1 b2 b3 b4 b5 hZ HRD HRN
                  obtain ⟨rp, hrp⟩ : ∃ rp, rdV Z p.data.toList = rp := ⟨_, rfl⟩
                  have HRP := Lib.hid hrp
                  have HR3 := Lib.hid HRR.out.2
                  rw [hrp] at HR3
                  clear hrp
                  obtain ⟨m3, dp3⟩ := rp
                  obtain rfl : m3 = 3 := HR3.out
                  go_wp2_with fail
                  refine (LR Z _ _ q _ HS13.out.et HZ.out HTZ.out (by have := HLZ.out; have := HLY.out; have := HLX.out; have := HL7.out; omega) (by have := HQ.out; omega)).mono ?_
                  rw [HRR.out.1]
                  rintro e w14 ⟨er6, rfl, e9, hb⟩
                  have HS14 := Lib.hid (HS13.out.next hb)
                  replace HE := Lib.hid (HE.out.below hb)
                  replace HX := Lib.hid (HX.out.below hb)
                  replace Her1 := Lib.hid (Her1.out.below hb)
                  replace Her2 := Lib.hid (Her2.out.below hb)
                  replace HY := Lib.hid (HY.out.below hb)
                  replace Her3 := Lib.hid (Her3.out.below hb)
                  replace Her4 := Lib.hid (Her4.out.below hb)
                  replace HZ := Lib.hid (HZ.out.below hb)
                  replace Her5 := Lib.hid (Her5.out.below hb)
                  clear hb
                  have Her6 := Lib.hid e9
                  clear e9
                  go_wp2_with fail
                  refine (LR Z _ _ p _ HS14.out.et HZ.out HTZ.out (by have := HLZ.out; have := HLY.out; have := HLX.out; have := HL7.out; omega) (by have := HP.out; omega)).mono ?_
                  rw [HRP.out]
                  rintro e w15 ⟨er7, rfl, e9, hb⟩
                  have HS15 := Lib.hid (HS14.out.next hb)
                  replace HE := Lib.hid (HE.out.below hb)
                  replace HX := Lib.hid (HX.out.below hb)
                  replace Her1 := Lib.hid (Her1.out.below hb)
                  replace Her2 := Lib.hid (Her2.out.below hb)
                  replace HY := Lib.hid (HY.out.below hb)
                  replace Her3 := Lib.hid (Her3.out.below hb)
                  replace Her4 := Lib.hid (Her4.out.below hb)
                  replace HZ := Lib.hid (HZ.out.below hb)
                  replace Her5 := Lib.hid (Her5.out.below hb)
                  replace Her6 := Lib.hid (Her6.out.below hb)
                  clear hb
                  have Her7 := Lib.hid e9
                  clear e9
                  go_wp2_with fail
                  refine (code_er _ _ _ Her6.out HS15.out.et).mono ?_
                  rintro e w16 ⟨rfl, hb⟩
                  have HS16 := Lib.hid (HS15.out.next hb)
                  replace HE := Lib.hid (HE.out.below hb)
                  replace HX := Lib.hid (HX.out.below hb)
                  replace Her1 := Lib.hid (Her1.out.below hb)
                  replace Her2 := Lib.hid (Her2.out.below hb)
                  replace HY := Lib.hid (HY.out.below hb)
                  replace Her3 := Lib.hid (Her3.out.below hb)
                  replace Her4 := Lib.hid (Her4.out.below hb)
                  replace HZ := Lib.hid (HZ.out.below hb)
                  replace Her5 := Lib.hid (Her5.out.below hb)
                  replace Her6 := Lib.hid (Her6.out.below hb)
                  replace Her7 := Lib.hid (Her7.out.below hb)
                  clear hb
                  go_wp2_with fail
                  refine (code_er _ _ _ Her7.out HS16.out.et).mono ?_
                  rintro e w17 ⟨rfl, hb⟩
                  have HS17 := Lib.hid (HS16.out.next hb)
                  replace HE := Lib.hid (HE.out.below hb)
                  replace HX := Lib.hid (HX.out.below hb)
                  replace Her1 := Lib.hid (Her1.out.below hb)
                  replace Her2 := Lib.hid (Her2.out.below hb)
                  replace HY := Lib.hid (HY.out.below hb)
                  replace Her3 := Lib.hid (Her3.out.below hb)
                  replace Her4 := Lib.hid (Her4.out.below hb)
                  replace HZ := Lib.hid (HZ.out.below hb)
                  replace Her5 := Lib.hid (Her5.out.below hb)
                  replace Her6 := Lib.hid (Her6.out.below hb)
                  replace Her7 := Lib.hid (Her7.out.below hb)
                  clear hb
                  go_wp2_with fail
                  refine (L.unlink Y _ _ p _ HS17.out.et HY.out HTY.out (by have := HLY.out; have := HLX.out; have := HL7.out; omega) (by have := HP.out; omega)).mono ?_
                  rw [HUV.out]
                  rintro e w18 ⟨a4, c4, er9, rfl, h9, e9, hb⟩
                  have HS18 := Lib.hid (HS17.out.next hb)
                  replace HE := Lib.hid (HE.out.below hb)
                  replace HX := Lib.hid (HX.out.below hb)
                  replace Her1 := Lib.hid (Her1.out.below hb)
                  replace Her2 := Lib.hid (Her2.out.below hb)
                  replace HY := Lib.hid (HY.out.below hb)
                  replace Her3 := Lib.hid (Her3.out.below hb)
                  replace Her4 := Lib.hid (Her4.out.below hb)
                  replace HZ := Lib.hid (HZ.out.below hb)
                  replace Her5 := Lib.hid (Her5.out.below hb)
                  replace Her6 := Lib.hid (Her6.out.below hb)
                  replace Her7 := Lib.hid (Her7.out.below hb)
                  clear hb
                  have HV := Lib.hid h9
                  have Her9 := Lib.hid e9
                  clear h9 e9
                  go_wp2_with fail
                  refine (code_er _ _ _ Her9.out HS18.out.et).mono ?_
                  rintro e w19 ⟨rfl, hb⟩
                  have HS19 := Lib.hid (HS18.out.next hb)
                  replace HE := Lib.hid (HE.out.below hb)
                  replace HX := Lib.hid (HX.out.below hb)
                  replace Her1 := Lib.hid (Her1.out.below hb)
                  replace Her2 := Lib.hid (Her2.out.below hb)
                  replace HY := Lib.hid (HY.out.below hb)
                  replace Her3 := Lib.hid (Her3.out.below hb)
                  replace Her4 := Lib.hid (Her4.out.below hb)
                  replace HZ := Lib.hid (HZ.out.below hb)
                  replace Her5 := Lib.hid (Her5.out.below hb)
                  replace Her6 := Lib.hid (Her6.out.below hb)
                  replace Her7 := Lib.hid (Her7.out.below hb)
                  replace HV := Lib.hid (HV.out.below hb)
                  replace Her9 := Lib.hid (Her9.out.below hb)
                  clear hb
                  go_wp2_with fail
                  refine (same9 _ _ _ _ _ _ _ HV.out HE.out (by have := HL7.out; unfold maxLen; omega)).mono ?_
                  rintro e w20 ⟨rfl, hb⟩
                  have HS20 := Lib.hid (HS19.out.next hb)
                  replace HE := Lib.hid (HE.out.below hb)
                  replace HX := Lib.hid (HX.out.below hb)
                  replace Her1 := Lib.hid (Her1.out.below hb)
                  replace Her2 := Lib.hid (Her2.out.below hb)
                  replace HY := Lib.hid (HY.out.below hb)
                  replace Her3 := Lib.hid (Her3.out.below hb)
                  replace Her4 := Lib.hid (Her4.out.below hb)
                  replace HZ := Lib.hid (HZ.out.below hb)
                  replace Her5 := Lib.hid (Her5.out.below hb)
                  replace Her6 := Lib.hid (Her6.out.below hb)
                  replace Her7 := Lib.hid (Her7.out.below hb)
                  replace HV := Lib.hid (HV.out.below hb)
                  replace Her9 := Lib.hid (Her9.out.below hb)
                  clear hb
                  rw [if_pos rfl]
                  go_wp2
                  go_ret
                  exact ⟨by first | rfl | simp, HS20.out.below⟩
                · have g3 : ((n2 : Int) == 0) = false := beq_eq_false_iff_ne.2 h2
                  clear h2
                  go_wp2_with fail
                  refine (L.unlink Y _ _ p _ HS13.out.et HY.out HTY.out (by have := HLY.out; have := HLX.out; have := HL7.out; omega) (by have := HP.out; omega)).mono ?_
                  rw [HUV.out]
                  rintro e w14 ⟨a4, c4, er9, rfl, h9, e9, hb⟩
                  have HS14 := Lib.hid (HS13.out.next hb)
                  replace HE := Lib.hid (HE.out.below hb)
                  replace HX := Lib.hid (HX.out.below hb)
                  replace Her1 := Lib.hid (Her1.out.below hb)
                  replace Her2 := Lib.hid (Her2.out.below hb)
                  replace HY := Lib.hid (HY.out.below hb)
                  replace Her3 := Lib.hid (Her3.out.below hb)
                  replace Her4 := Lib.hid (Her4.out.below hb)
                  replace HZ := Lib.hid (HZ.out.below hb)
                  replace Her5 := Lib.hid (Her5.out.below hb)
                  clear hb
                  have HV := Lib.hid h9
                  have Her9 := Lib.hid e9
                  clear h9 e9
                  go_wp2_with fail
                  refine (code_er _ _ _ Her9.out HS14.out.et).mono ?_
                  rintro e w15 ⟨rfl, hb⟩
                  have HS15 := Lib.hid (HS14.out.next hb)
                  replace HE := Lib.hid (HE.out.below hb)
                  replace HX := Lib.hid (HX.out.below hb)
                  replace Her1 := Lib.hid (Her1.out.below hb)
                  replace Her2 := Lib.hid (Her2.out.below hb)
                  replace HY := Lib.hid (HY.out.below hb)
                  replace Her3 := Lib.hid (Her3.out.below hb)
                  replace Her4 := Lib.hid (Her4.out.below hb)
                  replace HZ := Lib.hid (HZ.out.below hb)
                  replace Her5 := Lib.hid (Her5.out.below hb)
                  replace HV := Lib.hid (HV.out.below hb)
                  replace Her9 := Lib.hid (Her9.out.below hb)
                  clear hb
                  go_wp2_with fail
                  refine (same9 _ _ _ _ _ _ _ HV.out HE.out (by have := HL7.out; unfold maxLen; omega)).mono ?_
                  rintro e w16 ⟨rfl, hb⟩
                  have HS16 := Lib.hid (HS15.out.next hb)
                  replace HE := Lib.hid (HE.out.below hb)
                  replace HX := Lib.hid (HX.out.below hb)
                  replace Her1 := Lib.hid (Her1.out.below hb)
                  replace Her2 := Lib.hid (Her2.out.below hb)
                  replace HY := Lib.hid (HY.out.below hb)
                  replace Her3 := Lib.hid (Her3.out.below hb)
                  replace Her4 := Lib.hid (Her4.out.below hb)
                  replace HZ := Lib.hid (HZ.out.below hb)
                  replace Her5 := Lib.hid (Her5.out.below hb)
                  replace HV := Lib.hid (HV.out.below hb)
                  replace Her9 := Lib.hid (Her9.out.below hb)
                  clear hb
                  rw [if_pos rfl]
                  go_wp2
                  go_ret
                  exact ⟨by first | rfl | simp, HS16.out.below⟩
              · have hb1 : ¬ (n : Int) + (s.size : Int) ≤ 256 := by omega
                have HWV := Lib.hid (HWN.out hb)
                clear hb
                go_wp2_with fail
                refine (L.write X _ _ p (n : Int) s _ HS5.out.et HX.out HTX.out (by have := HLX.out; have := HL7.out; omega) (by have := HP.out; omega) (by omega) (by have := HS.out; omega)).mono ?_
                rw [HWV.out]
                rintro e w6 ⟨a2, c2, er3, rfl, h9, e9, hb⟩
                have HS6 := Lib.hid (HS5.out.next hb)
                replace HE := Lib.hid (HE.out.below hb)
                replace HX := Lib.hid (HX.out.below hb)
                replace Her1 := Lib.hid (Her1.out.below hb)
                replace Her2 := Lib.hid (Her2.out.below hb)
                clear hb
                have HY := Lib.hid h9
                have Her3 := Lib.hid e9
                clear h9 e9
                go_wp2_with fail
                refine (code_er _ _ _ Her2.out HS6.out.et).mono ?_
                rintro e w7 ⟨rfl, hb⟩
                have HS7 := Lib.hid (HS6.out.next hb)
                replace HE := Lib.hid (HE.out.below hb)
                replace HX := Lib.hid (HX.out.below hb)
                replace Her1 := Lib.hid (Her1.out.below hb)
                replace Her2 := Lib.hid (Her2.out.below hb)
                replace HY := Lib.hid (HY.out.below hb)
                replace Her3 := Lib.hid (Her3.out.below hb)
                clear hb
                go_wp2_with fail
                refine (code_er _ _ _ Her3.out HS7.out.et).mono ?_
                rintro e w8 ⟨rfl, hb⟩
                have HS8 := Lib.hid (HS7.out.next hb)
                replace HE := Lib.hid (HE.out.below hb)
                replace HX := Lib.hid (HX.out.below hb)
                replace Her1 := Lib.hid (Her1.out.below hb)
                replace Her2 := Lib.hid (Her2.out.below hb)
                replace HY := Lib.hid (HY.out.below hb)
                replace Her3 := Lib.hid (Her3.out.below hb)
                clear hb
                go_wp2_with fail
                refine (code_er _ _ _ Her3.out HS8.out.et).mono ?_
                rintro e w9 ⟨rfl, hb⟩
                have HS9 := Lib.hid (HS8.out.next hb)
                replace HE := Lib.hid (HE.out.below hb)
                replace HX := Lib.hid (HX.out.below hb)
                replace Her1 := Lib.hid (Her1.out.below hb)
                replace Her2 := Lib.hid (Her2.out.below hb)
                replace HY := Lib.hid (HY.out.below hb)
                replace Her3 := Lib.hid (Her3.out.below hb)
                clear hb
                go_wp2
                go_ret
                exact ⟨by first | rfl | simp, HS9.out.below⟩
            · have g1 : ((n1 : Int) == 0) = false := beq_eq_false_iff_ne.2 h1
              have g2 : ((n1 : Int) != 0) = true := by rw [bne, g1]; rfl
              clear h1 HMD HST
              go_wp2
              go_ret
              exact ⟨by first | rfl | simp, HS4.out.below⟩
          · go_enter Tryd.func3, Tryd.ntmps3
            go_wp2_with fail
            refine (awake11 L _ HS0.out.et).mono ?_
            rintro e w1 ⟨rfl, hb⟩
            have HS1 := Lib.hid (HS0.out.next hb)
            replace HE := Lib.hid (HE.out.below hb)
            clear hb
            go_wp2_with fail
            refine (size9 t a cap _ HE.out).mono ?_
            rintro e w9 ⟨rfl, rfl⟩
            rw [if_pos hz]
            go_wp2_with fail
            refine (L.tree t a cap _ HS1.out.et HE.out HSM.out).mono ?_
            rintro e w2 ⟨rfl, hb⟩
            have HS2 := Lib.hid (HS1.out.next hb)
            replace HE := Lib.hid (HE.out.below hb)
            clear hb
            rw [decide_eq_false ht]
            go_wp2_with fail
            refine (awake11 L _ HS2.out.et).mono ?_
            rintro e w3 ⟨rfl, hb⟩
            have HS3 := Lib.hid (HS2.out.next hb)
            replace HE := Lib.hid (HE.out.below hb)
            clear hb
            go_wp2
            go_ret
            exact ⟨by first | rfl | simp, HS3.out.below⟩
  · go_enter Tryd.func3, Tryd.ntmps3
    go_wp2_with fail
    refine (awake11 L _ HS0.out.et).mono ?_
    rintro e w1 ⟨rfl, hb⟩
    have HS1 := Lib.hid (HS0.out.next hb)
    replace HE := Lib.hid (HE.out.below hb)
    clear hb
    go_wp2_with fail
    refine (size9 t a cap _ HE.out).mono ?_
    rintro e w9 ⟨rfl, rfl⟩
    rw [if_neg hz]
    go_wp2_with fail
    refine (awake11 L _ HS1.out.et).mono ?_
    rintro e w2 ⟨rfl, hb⟩
    have HS2 := Lib.hid (HS1.out.next hb)
    replace HE := Lib.hid (HE.out.below hb)
    clear hb
    go_wp2
    go_ret
    exact ⟨by first | rfl | simp, HS2.out.below⟩
end Go.Proofs.YtgpipljhpkhffaaDoor
