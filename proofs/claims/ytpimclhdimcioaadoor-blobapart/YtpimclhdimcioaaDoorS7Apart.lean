/-
  The law BlobApart, walked: for every two texts and either way it returns true and changes nothing that was there. Condition: errorType holds error's type.
-/
import Derived.Test.YtpimclhdimcioaaDoorS7Law
import Derived.Test.YtpimclhdimcioaaDoorS7Awake
namespace Go.Proofs.YtpimclhdimcioaaDoor
open Go.RowKit Go.Maps

/-- What is got of a text that another one may have been put over. -/
theorem apart_got {D : DskV} {k : Int} {n : Nat} (hk : D.ok) (l : List UInt8) : ∃ xv hc, (if adl (gotL D k n) = adl l then bs (gotL D k n) else (⟨#[]⟩ : ByteArray)) = xv ∧ (if adl (gotL D k n) = adl l then (0 : Int) else 12) = hc ∧ ((xv = ⟨#[]⟩ ∧ hc = 12) ∨ (hc = 0 ∧ xv.size = n)) := by
  refine ⟨_, _, rfl, rfl, ?_⟩
  by_cases h : adl (gotL D k n) = adl l
  · rw [if_pos h, if_pos h]
    exact .inr ⟨rfl, by rw [bs_size, gotL_len hk]⟩
  · rw [if_neg h, if_neg h]
    exact .inl ⟨rfl, rfl⟩
theorem npg_2000 {n : Nat} (h : n ≤ 2000) : npg n ≤ 32 := by unfold npg; omega
set_option maxRecDepth 10000 in
set_option maxHeartbeats 4000000 in
theorem apart_long (s t : ByteArray) (over : Bool) (h : (s.size : Int) < 1 ∨ (¬ (s.size : Int) < 1 ∧ (t.size : Int) < 1) ∨ (¬ (s.size : Int) < 1 ∧ ¬ (t.size : Int) < 1 ∧ (2000 : Int) < (s.size : Int)) ∨ (¬ (s.size : Int) < 1 ∧ ¬ (t.size : Int) < 1 ∧ ¬ (2000 : Int) < (s.size : Int) ∧ (2000 : Int) < (t.size : Int))) (W : World) :
    Calls Tryd.prog 6 #[.string s, .string t, .bool over] W fun e w' => e = .returned (.bool true) ∧ Below W.heap.size W w' := by
  rcases h with h | ⟨h1, h⟩ | ⟨h1, h2, h⟩ | ⟨h1, h2, h3, h⟩
  all_goals
    go_enter Tryd.func6, Tryd.ntmps6
    go_wp2_with fail
    refine (awake7 _).mono ?_
    rintro e w1 ⟨rfl, hb⟩
    have HB := Lib.hid hb
    clear hb
    go_wp2_with fail
    refine (awake7 _).mono ?_
    rintro e w2 ⟨rfl, hb⟩
    have HB2 := Lib.hid (HB.out.trans (hb.mono HB.out.size))
    clear hb
    go_wp2
    go_ret
    exact ⟨rfl, HB2.out⟩
set_option maxRecDepth 10000 in
set_option maxHeartbeats 4000000 in
theorem apart_false (s t : ByteArray) (h1 : 1 ≤ s.size) (h2 : 1 ≤ t.size) (h3 : s.size ≤ 2000) (h4 : t.size ≤ 2000) (W : World) (hg : EtLaid W) :
    Calls Tryd.prog 6 #[.string s, .string t, .bool false] W fun e w' => e = .returned (.bool true) ∧ Below W.heap.size W w' := by
  have HG := Lib.hid hg
  have HBT := Lib.hid hg.lt
  obtain ⟨np, hnp⟩ : ∃ np, npg s.size = np := ⟨_, rfl⟩
  obtain ⟨mp, hmp⟩ : ∃ mp, npg t.size = mp := ⟨_, rfl⟩
  have hn1 := npg_pos h1
  have hn2 := npg_2000 h3
  have hm1 := npg_pos h2
  have hm2 := npg_2000 h4
  rw [hnp] at hn1 hn2
  rw [hmp] at hm1 hm2
  have HP := Lib.hid (show pgs (s.size : Int) = (np : Int) by rw [pgs_nat h1 (by omega), hnp])
  obtain ⟨k, hk⟩ : ∃ k : Nat, (5 + np : Nat) = k := ⟨_, rfl⟩
  have hw1 : IntKind.i64.wrap (5 + (np : Int)) = (k : Int) := by
    rw [show 5 + (np : Int) = (k : Int) by omega]
    exact IntWalk.i64_in _ (by omega)
  have H1 := Lib.hid h1
  have H2 := Lib.hid h2
  have H3 := Lib.hid h3
  have H4 := Lib.hid h4
  have HK := Lib.hid (show np ≤ 32 ∧ mp ≤ 32 ∧ k ≤ 37 ∧ k = 5 + np by omega)
  have HNP := Lib.hid hnp
  have HMP := Lib.hid hmp
  obtain ⟨D1, hD1⟩ : ∃ D1, put7 (DskV.fresh 100) 5 s.data.toList np = D1 := ⟨_, rfl⟩
  obtain ⟨D2, hD2⟩ : ∃ D2, put7 D1 (k : Int) t.data.toList mp = D2 := ⟨_, rfl⟩
  have hu1 : D1.Up := by rw [← hD1]; exact put7_up (up_fresh 100) _ _ _
  have hu2 : D2.Up := by rw [← hD2]; exact put7_up hu1 _ _ _
  have hz1 : D1.size = 100 := by rw [← hD1]; rfl
  have hz2 : D2.size = 100 := by rw [← hD2]; exact hz1
  have hs1 : D1.soft.length = np := by rw [← hD1, put7_soft]; show 0 + np = np; omega
  have hgt : gotL D2 (k : Int) t.size = t.data.toList := by
    rw [← hD2, ← hmp]
    exact got_put7 hu1 (Lib.size_eq t).symm (by omega) (by rw [hz1]; omega)
  have hgs : gotL D2 5 s.size = s.data.toList := by
    rw [← hD2, ← hD1, ← hnp]
    refine got_of (Lib.size_eq s).symm fun i hi => ?_
    rw [seen_put7 (put7_up (up_fresh 100) _ _ _) _ _ _ (by omega) (by show (5 : Int) + (i : Int) < 100; omega), if_neg (by omega), seen_put7 (up_fresh 100) _ _ _ (by omega) (by show (5 : Int) + (i : Int) < 100; omega), if_pos (by omega)]
    congr 1
    omega
  have HXV := Lib.hid (show (if adl (gotL D2 5 s.size) = adl s.data.toList then bs (gotL D2 5 s.size) else (⟨#[]⟩ : ByteArray)) = s by rw [hgs, if_pos rfl, bs_self])
  have HHC : Hid (errV (if adl (gotL D2 5 s.size) = adl s.data.toList then 0 else 12) = .nilIface) := by rw [hgs, if_pos rfl]; rfl
  clear hgs
  have HU1 := Lib.hid hu1
  have HU2 := Lib.hid hu2
  have HZ1 := Lib.hid hz1
  have HZ2 := Lib.hid hz2
  have HS1 := Lib.hid hs1
  have HGT := Lib.hid hgt
  have HD1 := Lib.hid hD1
  have HD2 := Lib.hid hD2
  have hA1 : ¬ (s.size : Int) < 1 := by omega
  have hA2 : ¬ (t.size : Int) < 1 := by omega
  have hA3 : ¬ (2000 : Int) < (s.size : Int) := by omega
  have hA4 : ¬ (2000 : Int) < (t.size : Int) := by omega
  clear hg hnp hmp hn1 hn2 hm1 hm2 hk hD1 hD2 hu1 hu2 hz1 hz2 hs1 hgt h1 h2 h3 h4
  go_enter Tryd.func6, Tryd.ntmps6
  go_wp2_with fail
  refine (awake7 _).mono ?_
  rintro e w1 ⟨rfl, hb1⟩
  have HB1 := Lib.hid hb1
  have HG1 := Lib.hid (HG.out.below HBT.out hb1)
  clear hb1
  go_wp2_with fail
  refine (ses_new (W := W) (B := W.heap.size) 100 (by decide) (by decide) HB1.out (Nat.le_refl _) HG1.out).mono ?_
  rintro e w2 ⟨b, F2, rfl, hs2, _, _⟩
  rw [show errV 0 = .nilIface from rfl]
  have HS2 := Lib.hid hs2
  clear hs2
  go_wp2_with fail
  refine (ses_put HS2.out HBT.out (up_fresh 100) 5 s H1.out (by have := H3.out; omega) (by omega) (by rw [HNP.out]; show 5 + (np : Int) ≤ 100; have := HK.out; omega) (by rw [HNP.out]; show 0 + np ≤ 1000; have := HK.out; omega)).mono ?_
  rintro e w3 ⟨rfl, F3, hs3, _⟩
  rw [HNP.out, HD1.out] at hs3
  have hx3 := hs3.box (.cells #[.int .i64 5, .int .i64 (s.size : Int), .int .u32 (adl s.data.toList)] 32)
  have r4 := rfAt_new w3 5 (s.size : Int) (adl s.data.toList)
  obtain ⟨w4, hw4⟩ : ∃ w4, w3.alloc (.cells #[.int .i64 5, .int .i64 (s.size : Int), .int .u32 (adl s.data.toList)] 32) = w4 := ⟨_, rfl⟩
  rw [hw4] at hx3 r4
  obtain ⟨N, hN⟩ : ∃ N, w3.heap.size = N := ⟨_, rfl⟩
  rw [hN] at hx3 r4
  have HS4 := Lib.hid hx3.1
  have HF4 := Lib.hid hx3.2.1
  have HR4 := Lib.hid r4
  clear hs3 hx3 r4 HS2
  go_wp2_with fail
  refine (pages_any _ _).mono ?_
  rintro e w5 ⟨rfl, rfl⟩
  rw [HP.out]
  clear hw4 hN
  go_wp2_with fail
  refine (ses_put HS4.out HBT.out HU1.out (k : Int) t H2.out (by have := H4.out; omega) (by omega) (by rw [HMP.out, HZ1.out]; have := HK.out; omega) (by rw [HMP.out, HS1.out]; have := HK.out; omega)).mono ?_
  rintro e w6 ⟨rfl, F6, hs6, hd6⟩
  rw [HMP.out, HD2.out] at hs6
  have hk6 := hd6.block HR4.out.lt HF4.out
  have r6 := HR4.out.of hk6.1
  have hx6 := hs6.box (.cells #[.int .i64 (k : Int), .int .i64 (t.size : Int), .int .u32 (adl t.data.toList)] 32)
  have q7 := rfAt_new w6 (k : Int) (t.size : Int) (adl t.data.toList)
  have r7 := r6.below ((Below.refl w6.heap.size w6).alloc (Nat.le_refl _) (.cells #[.int .i64 (k : Int), .int .i64 (t.size : Int), .int .u32 (adl t.data.toList)] 32))
  obtain ⟨w7, hw7⟩ : ∃ w7, w6.alloc (.cells #[.int .i64 (k : Int), .int .i64 (t.size : Int), .int .u32 (adl t.data.toList)] 32) = w7 := ⟨_, rfl⟩
  rw [hw7] at hx6 q7 r7
  obtain ⟨M, hM⟩ : ∃ M, w6.heap.size = M := ⟨_, rfl⟩
  rw [hM] at hx6 q7
  have HS7 := Lib.hid hx6.1
  have HQ7 := Lib.hid q7
  have c0 := r7.c0
  have c1 := r7.c1
  have c2 := r7.c2
  clear hs6 hd6 hk6 r6 hx6 q7 r7 HS4 HF4 HR4
  go_wp2_with fail
  refine (ses_get HS7.out HU2.out.1 5 s.size (adl s.data.toList) H1.out (by have := H3.out; omega) (by omega) (by rw [HNP.out, HZ2.out]; have := HK.out; omega)).mono ?_
  rintro e w8 ⟨rfl, hs8, hb8⟩
  rw [HXV.out, HHC.out]
  have HS8 := Lib.hid hs8
  have q8 := HQ7.out.below hb8
  have d0 := q8.c0
  have d1 := q8.c1
  have d2 := q8.c2
  clear hs8 hb8 q8 HQ7 HS7 c0 c1 c2 hw7 hM
  go_wp2_with fail
  refine (ses_get HS8.out HU2.out.1 (k : Int) t.size (adl t.data.toList) H2.out (by have := H4.out; omega) (by omega) (by rw [HMP.out, HZ2.out]; have := HK.out; omega)).mono ?_
  rintro e w9 ⟨rfl, hs9, _⟩
  rw [HGT.out, if_pos rfl, if_pos rfl, bs_self, show errV 0 = .nilIface from rfl]
  have HS9 := Lib.hid hs9
  clear hs9 HS8 d0 d1 d2
  go_wp2_with fail
  refine (codeZ _).mono ?_
  rintro e w10 ⟨rfl, rfl⟩
  go_wp2_with fail
  refine (codeZ _).mono ?_
  rintro e w10 ⟨rfl, rfl⟩
  go_wp2_with fail
  refine (codeZ _).mono ?_
  rintro e w10 ⟨rfl, rfl⟩
  go_wp2_with fail
  refine (codeZ _).mono ?_
  rintro e w10 ⟨rfl, rfl⟩
  go_wp2_with fail
  refine (codeZ _).mono ?_
  rintro e w10 ⟨rfl, rfl⟩
  go_wp2
  go_ret
  exact ⟨by simp, HS9.out.below⟩
set_option maxRecDepth 10000 in
set_option maxHeartbeats 4000000 in
theorem apart_true (s t : ByteArray) (h1 : 1 ≤ s.size) (h2 : 1 ≤ t.size) (h3 : s.size ≤ 2000) (h4 : t.size ≤ 2000) (W : World) (hg : EtLaid W) :
    Calls Tryd.prog 6 #[.string s, .string t, .bool true] W fun e w' => e = .returned (.bool true) ∧ Below W.heap.size W w' := by
  have HG := Lib.hid hg
  have HBT := Lib.hid hg.lt
  obtain ⟨np, hnp⟩ : ∃ np, npg s.size = np := ⟨_, rfl⟩
  obtain ⟨mp, hmp⟩ : ∃ mp, npg t.size = mp := ⟨_, rfl⟩
  have hn1 := npg_pos h1
  have hn2 := npg_2000 h3
  have hm1 := npg_pos h2
  have hm2 := npg_2000 h4
  rw [hnp] at hn1 hn2
  rw [hmp] at hm1 hm2
  have HP := Lib.hid (show pgs (s.size : Int) = (np : Int) by rw [pgs_nat h1 (by omega), hnp])
  obtain ⟨k, hk⟩ : ∃ k : Nat, (4 + np : Nat) = k := ⟨_, rfl⟩
  have hw1 : IntKind.i64.wrap (5 + (np : Int)) = 5 + (np : Int) := IntWalk.i64_in _ (by omega)
  have hw2 : IntKind.i64.wrap (5 + (np : Int) - 1) = (k : Int) := by
    rw [show 5 + (np : Int) - 1 = ((4 + np : Nat) : Int) by omega]
    rw [hk]
    exact IntWalk.i64_in _ (by omega)
  have H1 := Lib.hid h1
  have H2 := Lib.hid h2
  have H3 := Lib.hid h3
  have H4 := Lib.hid h4
  have HK := Lib.hid (show np ≤ 32 ∧ mp ≤ 32 ∧ k ≤ 37 ∧ k = 4 + np by omega)
  have HNP := Lib.hid hnp
  have HMP := Lib.hid hmp
  obtain ⟨D1, hD1⟩ : ∃ D1, put7 (DskV.fresh 100) 5 s.data.toList np = D1 := ⟨_, rfl⟩
  obtain ⟨D2, hD2⟩ : ∃ D2, put7 D1 (k : Int) t.data.toList mp = D2 := ⟨_, rfl⟩
  have hu1 : D1.Up := by rw [← hD1]; exact put7_up (up_fresh 100) _ _ _
  have hu2 : D2.Up := by rw [← hD2]; exact put7_up hu1 _ _ _
  have hz1 : D1.size = 100 := by rw [← hD1]; rfl
  have hz2 : D2.size = 100 := by rw [← hD2]; exact hz1
  have hs1 : D1.soft.length = np := by rw [← hD1, put7_soft]; show 0 + np = np; omega
  have hgt : gotL D2 (k : Int) t.size = t.data.toList := by
    rw [← hD2, ← hmp]
    exact got_put7 hu1 (Lib.size_eq t).symm (by omega) (by rw [hz1]; omega)
  have HU1 := Lib.hid hu1
  have HU2 := Lib.hid hu2
  have HZ1 := Lib.hid hz1
  have HZ2 := Lib.hid hz2
  have HS1 := Lib.hid hs1
  have HGT := Lib.hid hgt
  have HD1 := Lib.hid hD1
  have HD2 := Lib.hid hD2
  have hA1 : ¬ (s.size : Int) < 1 := by omega
  have hA2 : ¬ (t.size : Int) < 1 := by omega
  have hA3 : ¬ (2000 : Int) < (s.size : Int) := by omega
  have hA4 : ¬ (2000 : Int) < (t.size : Int) := by omega
  clear hg hnp hmp hn1 hn2 hm1 hm2 hk hD1 hD2 hu1 hu2 hz1 hz2 hs1 hgt h1 h2 h3 h4
  go_enter Tryd.func6, Tryd.ntmps6
  go_wp2_with fail
  refine (awake7 _).mono ?_
  rintro e w1 ⟨rfl, hb1⟩
  have HB1 := Lib.hid hb1
  have HG1 := Lib.hid (HG.out.below HBT.out hb1)
  clear hb1
  go_wp2_with fail
  refine (ses_new (W := W) (B := W.heap.size) 100 (by decide) (by decide) HB1.out (Nat.le_refl _) HG1.out).mono ?_
  rintro e w2 ⟨b, F2, rfl, hs2, _, _⟩
  rw [show errV 0 = .nilIface from rfl]
  have HS2 := Lib.hid hs2
  clear hs2
  go_wp2_with fail
  refine (ses_put HS2.out HBT.out (up_fresh 100) 5 s H1.out (by have := H3.out; omega) (by omega) (by rw [HNP.out]; show 5 + (np : Int) ≤ 100; have := HK.out; omega) (by rw [HNP.out]; show 0 + np ≤ 1000; have := HK.out; omega)).mono ?_
  rintro e w3 ⟨rfl, F3, hs3, _⟩
  rw [HNP.out, HD1.out] at hs3
  have hx3 := hs3.box (.cells #[.int .i64 5, .int .i64 (s.size : Int), .int .u32 (adl s.data.toList)] 32)
  have r4 := rfAt_new w3 5 (s.size : Int) (adl s.data.toList)
  obtain ⟨w4, hw4⟩ : ∃ w4, w3.alloc (.cells #[.int .i64 5, .int .i64 (s.size : Int), .int .u32 (adl s.data.toList)] 32) = w4 := ⟨_, rfl⟩
  rw [hw4] at hx3 r4
  obtain ⟨N, hN⟩ : ∃ N, w3.heap.size = N := ⟨_, rfl⟩
  rw [hN] at hx3 r4
  have HS4 := Lib.hid hx3.1
  have HF4 := Lib.hid hx3.2.1
  have HR4 := Lib.hid r4
  clear hs3 hx3 r4 HS2
  go_wp2_with fail
  refine (pages_any _ _).mono ?_
  rintro e w5 ⟨rfl, rfl⟩
  rw [HP.out]
  clear hw4 hN
  go_wp2_with fail
  refine (ses_put HS4.out HBT.out HU1.out (k : Int) t H2.out (by have := H4.out; omega) (by omega) (by rw [HMP.out, HZ1.out]; have := HK.out; omega) (by rw [HMP.out, HS1.out]; have := HK.out; omega)).mono ?_
  rintro e w6 ⟨rfl, F6, hs6, hd6⟩
  rw [HMP.out, HD2.out] at hs6
  have hk6 := hd6.block HR4.out.lt HF4.out
  have r6 := HR4.out.of hk6.1
  have hx6 := hs6.box (.cells #[.int .i64 (k : Int), .int .i64 (t.size : Int), .int .u32 (adl t.data.toList)] 32)
  have q7 := rfAt_new w6 (k : Int) (t.size : Int) (adl t.data.toList)
  have r7 := r6.below ((Below.refl w6.heap.size w6).alloc (Nat.le_refl _) (.cells #[.int .i64 (k : Int), .int .i64 (t.size : Int), .int .u32 (adl t.data.toList)] 32))
  obtain ⟨w7, hw7⟩ : ∃ w7, w6.alloc (.cells #[.int .i64 (k : Int), .int .i64 (t.size : Int), .int .u32 (adl t.data.toList)] 32) = w7 := ⟨_, rfl⟩
  rw [hw7] at hx6 q7 r7
  obtain ⟨M, hM⟩ : ∃ M, w6.heap.size = M := ⟨_, rfl⟩
  rw [hM] at hx6 q7
  have HS7 := Lib.hid hx6.1
  have HQ7 := Lib.hid q7
  have c0 := r7.c0
  have c1 := r7.c1
  have c2 := r7.c2
  clear hs6 hd6 hk6 r6 hx6 q7 r7 HS4 HF4 HR4
  go_wp2_with fail
  refine (ses_get HS7.out HU2.out.1 5 s.size (adl s.data.toList) H1.out (by have := H3.out; omega) (by omega) (by rw [HNP.out, HZ2.out]; have := HK.out; omega)).mono ?_
  rintro e w8 ⟨rfl, hs8, hb8⟩
  obtain ⟨xv, hc, hxv, hhc, hor⟩ := apart_got (D := D2) (k := 5) (n := s.size) HS7.out.dsk.ok s.data.toList
  obtain ⟨ev, hev⟩ : ∃ ev, errV hc = ev := ⟨_, rfl⟩
  rw [hxv, hhc, hev]
  have HEV := Lib.hid hev
  have HOR := Lib.hid hor
  clear hxv hhc hor hev
  have HS8 := Lib.hid hs8
  have q8 := HQ7.out.below hb8
  have d0 := q8.c0
  have d1 := q8.c1
  have d2 := q8.c2
  clear hs8 hb8 q8 HQ7 HS7 c0 c1 c2 hw7 hM
  go_wp2_with fail
  refine (ses_get HS8.out HU2.out.1 (k : Int) t.size (adl t.data.toList) H2.out (by have := H4.out; omega) (by omega) (by rw [HMP.out, HZ2.out]; have := HK.out; omega)).mono ?_
  rintro e w9 ⟨rfl, hs9, _⟩
  rw [HGT.out, if_pos rfl, if_pos rfl, bs_self, show errV 0 = .nilIface from rfl]
  have HS9 := Lib.hid hs9
  clear hs9 HS8 d0 d1 d2
  go_wp2_with fail
  refine (codeZ _).mono ?_
  rintro e w10 ⟨rfl, rfl⟩
  go_wp2_with fail
  refine (codeZ _).mono ?_
  rintro e w10 ⟨rfl, rfl⟩
  go_wp2_with fail
  refine (codeZ _).mono ?_
  rintro e w10 ⟨rfl, rfl⟩
  go_wp2_with fail
  refine (codeZ _).mono ?_
  rintro e w10 ⟨rfl, rfl⟩
  have HCE : Hid (∀ W', EtLaid W' → Calls Tryd.prog 12 #[ev] W' fun e w' => e = .returned (.int .i64 hc) ∧ Below W'.heap.size W' w') := fun W' hW' => by rw [← HEV.out]; exact code_err hc W' hW'
  go_wp2_with fail
  refine (HCE.out _ HS9.out.et).mono ?_
  rintro e w10 ⟨rfl, hb10⟩
  have HS10 := Lib.hid (HS9.out.keep hb10)
  clear hb10
  rcases HOR.out with ⟨rfl, rfl⟩ | ⟨rfl, hsz⟩
  · go_wp2
    go_ret
    exact ⟨by simp, HS10.out.below⟩
  · have hsz2 : ((xv.size : Int) == (s.size : Int)) = true := by rw [hsz]; simp
    go_wp2_with fail
    refine (HCE.out _ HS10.out.et).mono ?_
    rintro e w11 ⟨rfl, hb11⟩
    have HS11 := Lib.hid (HS10.out.keep hb11)
    clear hb11
    go_wp2
    go_ret
    exact ⟨by simp, HS11.out.below⟩
theorem apart_any (s t : ByteArray) (over : Bool) (W : World) (hg : EtLaid W) :
    Calls Tryd.prog 6 #[.string s, .string t, .bool over] W fun e w' => e = .returned (.bool true) ∧ Below W.heap.size W w' := by
  by_cases h : 1 ≤ s.size ∧ 1 ≤ t.size ∧ s.size ≤ 2000 ∧ t.size ≤ 2000
  · cases over
    · exact apart_false s t h.1 h.2.1 h.2.2.1 h.2.2.2 W hg
    · exact apart_true s t h.1 h.2.1 h.2.2.1 h.2.2.2 W hg
  · exact apart_long s t over (by omega) W
end Go.Proofs.YtpimclhdimcioaaDoor
