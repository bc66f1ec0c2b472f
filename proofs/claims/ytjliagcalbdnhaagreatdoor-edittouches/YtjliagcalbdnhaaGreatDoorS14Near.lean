/-
  The statements' own 'near' of layer 14: does a path lie at, under, or over one of two? Condition: texts of at most 100000 bytes.
-/
import Derived.Test.YtjliagcalbdnhaaGreatDoorPa
import Derived.Lib.Hide
namespace Go.Proofs.YtjliagcalbdnhaaGreatDoor
open Go.RowKit

def nearB (x p q : List UInt8) : Bool := x == p || x == q || und x p || und x q || und p x || und q x
set_option maxRecDepth 10000 in
set_option maxHeartbeats 4000000 in
theorem near14 (x p q : ByteArray) (hx : x.size ≤ 100000) (hp : p.size ≤ 100000) (hq : q.size ≤ 100000) (w : World) : Calls Tryz.prog 21 #[.string x, .string p, .string q] w fun e w' => e = .returned (.bool (nearB x.data.toList p.data.toList q.data.toList)) ∧ Below w.heap.size w w' := by
  obtain ⟨R, hR⟩ : ∃ R, nearB x.data.toList p.data.toList q.data.toList = R := ⟨_, rfl⟩
  rw [hR]
  unfold nearB at hR
  have HU1 := Lib.hid (fun w => under_any x p (by omega) (by omega) w)
  have HU2 := Lib.hid (fun w => under_any x q (by omega) (by omega) w)
  have HU3 := Lib.hid (fun w => under_any p x (by omega) (by omega) w)
  have HU4 := Lib.hid (fun w => under_any q x (by omega) (by omega) w)
  obtain ⟨b1, h1⟩ : ∃ b, und x.data.toList p.data.toList = b := ⟨_, rfl⟩
  obtain ⟨b2, h2⟩ : ∃ b, und x.data.toList q.data.toList = b := ⟨_, rfl⟩
  obtain ⟨b3, h3⟩ : ∃ b, und p.data.toList x.data.toList = b := ⟨_, rfl⟩
  obtain ⟨b4, h4⟩ : ∃ b, und q.data.toList x.data.toList = b := ⟨_, rfl⟩
  have ga : (x.toList == p.toList) = (x.data.toList == p.data.toList) := by rw [Lib.toList_data, Lib.toList_data]
  have gb : (x.toList == q.toList) = (x.data.toList == q.data.toList) := by rw [Lib.toList_data, Lib.toList_data]
  obtain ⟨d1, e1⟩ : ∃ b, (x.data.toList == p.data.toList) = b := ⟨_, rfl⟩
  obtain ⟨d2, e2⟩ : ∃ b, (x.data.toList == q.data.toList) = b := ⟨_, rfl⟩
  rw [h1] at HU1
  rw [h2] at HU2
  rw [h3] at HU3
  rw [h4] at HU4
  rw [h1, h2, h3, h4, e1, e2] at hR
  rw [e1] at ga
  rw [e2] at gb
  clear e1 e2 h1 h2 h3 h4 hx hp hq
  cases d1 with
  | true =>
    have HV := Lib.hid (show R = true from hR.symm.trans (by first | rfl | simp))
    clear hR
    go_enter Tryz.func21, Tryz.ntmps21
    go_wp2
    go_ret
    exact ⟨by rw [HV.out] <;> first | rfl | simp, Below.refl _ _⟩
  | false =>
    cases d2 with
    | true =>
      have HV := Lib.hid (show R = true from hR.symm.trans (by first | rfl | simp))
      clear hR
      go_enter Tryz.func21, Tryz.ntmps21
      go_wp2
      go_ret
      exact ⟨by rw [HV.out] <;> first | rfl | simp, Below.refl _ _⟩
    | false =>
      cases b1 with
      | true =>
        have HV := Lib.hid (show R = true from hR.symm.trans (by first | rfl | simp))
        clear hR
        go_enter Tryz.func21, Tryz.ntmps21
        go_wp2_with fail
        refine (HU1.out _).mono ?_
        rintro e w1 ⟨rfl, hb⟩
        have HB1 := Lib.hid hb
        clear hb
        go_wp2
        go_ret
        exact ⟨by rw [HV.out] <;> first | rfl | simp, HB1.out⟩
      | false =>
        cases b2 with
        | true =>
          have HV := Lib.hid (show R = true from hR.symm.trans (by first | rfl | simp))
          clear hR
          go_enter Tryz.func21, Tryz.ntmps21
          go_wp2_with fail
          refine (HU1.out _).mono ?_
          rintro e w1 ⟨rfl, hb⟩
          have HB1 := Lib.hid hb
          clear hb
          go_wp2_with fail
          refine (HU2.out _).mono ?_
          rintro e w2 ⟨rfl, hb⟩
          have HB2 := Lib.hid (HB1.out.trans (hb.mono HB1.out.size))
          clear hb
          go_wp2
          go_ret
          exact ⟨by rw [HV.out] <;> first | rfl | simp, HB2.out⟩
        | false =>
          cases b3 with
          | true =>
            have HV := Lib.hid (show R = true from hR.symm.trans (by first | rfl | simp))
            clear hR
            go_enter Tryz.func21, Tryz.ntmps21
            go_wp2_with fail
            refine (HU1.out _).mono ?_
            rintro e w1 ⟨rfl, hb⟩
            have HB1 := Lib.hid hb
            clear hb
            go_wp2_with fail
            refine (HU2.out _).mono ?_
            rintro e w2 ⟨rfl, hb⟩
            have HB2 := Lib.hid (HB1.out.trans (hb.mono HB1.out.size))
            clear hb
            go_wp2_with fail
            refine (HU3.out _).mono ?_
            rintro e w3 ⟨rfl, hb⟩
            have HB3 := Lib.hid (HB2.out.trans (hb.mono HB2.out.size))
            clear hb
            go_wp2
            go_ret
            exact ⟨by rw [HV.out] <;> first | rfl | simp, HB3.out⟩
          | false =>
            cases b4 with
            | true =>
              have HV := Lib.hid (show R = true from hR.symm.trans (by first | rfl | simp))
              clear hR
              go_enter Tryz.func21, Tryz.ntmps21
              go_wp2_with fail
              refine (HU1.out _).mono ?_
              rintro e w1 ⟨rfl, hb⟩
              have HB1 := Lib.hid hb
              clear hb
              go_wp2_with fail
              refine (HU2.out _).mono ?_
              rintro e w2 ⟨rfl, hb⟩
              have HB2 := Lib.hid (HB1.out.trans (hb.mono HB1.out.size))
              clear hb
              go_wp2_with fail
              refine (HU3.out _).mono ?_
              rintro e w3 ⟨rfl, hb⟩
              have HB3 := Lib.hid (HB2.out.trans (hb.mono HB2.out.size))
              clear hb
              go_wp2_with fail
              refine (HU4.out _).mono ?_
              rintro e w4 ⟨rfl, hb⟩
              have HB4 := Lib.hid (HB3.out.trans (hb.mono HB3.out.size))
              clear hb
              go_wp2
              go_ret
              exact ⟨by rw [HV.out] <;> first | rfl | simp, HB4.out⟩
            | false =>
              have HV := Lib.hid (show R = false from hR.symm.trans (by first | rfl | simp))
              clear hR
              go_enter Tryz.func21, Tryz.ntmps21
              go_wp2_with fail
              refine (HU1.out _).mono ?_
              rintro e w1 ⟨rfl, hb⟩
              have HB1 := Lib.hid hb
              clear hb
              go_wp2_with fail
              refine (HU2.out _).mono ?_
              rintro e w2 ⟨rfl, hb⟩
              have HB2 := Lib.hid (HB1.out.trans (hb.mono HB1.out.size))
              clear hb
              go_wp2_with fail
              refine (HU3.out _).mono ?_
              rintro e w3 ⟨rfl, hb⟩
              have HB3 := Lib.hid (HB2.out.trans (hb.mono HB2.out.size))
              clear hb
              go_wp2_with fail
              refine (HU4.out _).mono ?_
              rintro e w4 ⟨rfl, hb⟩
              have HB4 := Lib.hid (HB3.out.trans (hb.mono HB3.out.size))
              clear hb
              go_wp2
              go_ret
              exact ⟨by rw [HV.out] <;> first | rfl | simp, HB4.out⟩
end Go.Proofs.YtjliagcalbdnhaaGreatDoor
