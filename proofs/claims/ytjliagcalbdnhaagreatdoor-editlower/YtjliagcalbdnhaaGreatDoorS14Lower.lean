/-
  The law EditLower walked over Do14, Tree14, Right14: for every list of ops it returns true and changes nothing that was there. Conditions: package edit answers as Do14 says, fold.Tree and layer.Right as Tree14, Right14; the ops lie in memory; errorType holds error's type.
-/
import Derived.Test.YtjliagcalbdnhaaGreatDoorS14Awake
import Derived.Deep.LoopGhost
namespace Go.Proofs.YtjliagcalbdnhaaGreatDoor
open Go.RowKit

set_option maxRecDepth 10000 in
set_option maxHeartbeats 8000000 in
theorem lawLower14 (LD : Do14) (LT : Tree14) (LR : Right14) (l : List Op11) (a2 : Option Addr) (cap2 : Nat) (W : World) (hg : EtLaid W) (hl : Ops W a2 cap2 l) (hok : ∀ x ∈ l, opOK x) :
    Calls Tryz.prog 4 #[.slice a2 l.length cap2] W fun e w' => e = .returned (.bool true) ∧ Below W.heap.size W w' := by
  have HS0 := Lib.hid (st_self hg)
  have HO := Lib.hid hl
  have HOK := Lib.hid hok
  have HCAP := Lib.hid hl.1
  clear hg hl hok
  by_cases h25 : (25 : Int) < (l.length : Int)
  · go_enter Tryz.func4, Tryz.ntmps4
    go_wp2_with fail
    refine (awake14 LD _ HS0.out.et).mono ?_
    rintro e w1 ⟨rfl, hb⟩
    have HS1 := Lib.hid (HS0.out.next hb)
    clear hb
    go_wp2_with fail
    refine (awake14 LD _ HS1.out.et).mono ?_
    rintro e w2 ⟨rfl, hb⟩
    have HS2 := Lib.hid (HS1.out.next hb)
    clear hb
    go_wp2
    go_ret
    exact ⟨by first | rfl | simp, HS2.out.below⟩
  · have HL25 := Lib.hid (show l.length ≤ 25 by omega)
    go_enter Tryz.func4, Tryz.ntmps4
    go_wp2_with fail
    refine (awake14 LD _ HS0.out.et).mono ?_
    rintro e w1 ⟨rfl, hb⟩
    have HS1 := Lib.hid (HS0.out.next hb)
    replace HO := Lib.hid (RowN.below HO.out hb)
    clear hb
    go_wp2
    go_loopg [3, 4] l.length (fun g v i wx => ∃ (k : Nat) (a3 : Option Addr) (cap3 : Nat) (U : List Ent), v = .slice a3 U.length cap3 ∧ i = .int .i64 (k : Int) ∧ k + g = l.length ∧ Hid (Ents wx a3 cap3 U) ∧ Hid (TR U ∧ RightL U) ∧ Hid (Ops wx a2 cap2 l) ∧ Hid (St W wx))
    case atStart => exact ⟨0, none, 0, [], rfl, rfl, by omega, ents_nil _ _ _, ⟨tr_nil, right_nil14⟩, HO.out, HS1.out⟩
    case round =>
      obtain ⟨k, a3, cap3, U, rfl, rfl, hk, HEU, HU, HOX, HS3⟩ := hrel
      have hw : IntKind.i64.wrap ((k : Int) + 1) = (k : Int) + 1 := IntWalk.i64_in _ (by have := HL25.out; omega)
      have HSU := Lib.hid (sm_right14 HU.out.2)
      by_cases hlt : k < l.length
      · have hlt' : (k : Int) < (l.length : Int) := by omega
        have hkc : (k : Int) ≤ (cap2 : Int) := by have := HCAP.out; omega
        obtain ⟨b, off, e9, _, hc⟩ := Ops.at HOX.out (Below.refl _ _) hlt
        have HX := Lib.hid (HOK.out _ (List.getElem_mem hlt))
        obtain ⟨o, ho⟩ : ∃ o, l[k] = o := ⟨_, rfl⟩
        rw [ho] at hc HX
        have HXK := Lib.hid ho
        clear ho
        subst e9
        have c0 := hc.c0
        have c1 := hc.c1
        have c2 := hc.c2
        have c3 := hc.c3
        have c4 := hc.c4
        clear hc
        by_cases hf : FewO o
        · go_wp2_with fail
          refine (few11 o _).mono ?_
          rintro e w4 ⟨rfl, hb⟩
          rw [if_pos hf]
          have HF := Lib.hid hf
          have HS4 := Lib.hid (HS3.out.next hb)
          replace HEU := Lib.hid (HEU.out.below hb)
          replace HOX := Lib.hid (RowN.below HOX.out hb)
          clear hb c0 c1 c2 c3 c4 hf
          obtain ⟨b9, off9, e9, _, hc⟩ := Ops.at HOX.out (Below.refl _ _) hlt
          rw [HXK.out] at hc
          cases e9
          have c0 := hc.c0
          have c1 := hc.c1
          have c2 := hc.c2
          have c3 := hc.c3
          have c4 := hc.c4
          clear hc
          go_wp2_with fail
          refine (of14 o _).mono ?_
          rintro e w5 ⟨rfl, hb⟩
          have HS5 := Lib.hid (HS4.out.next hb)
          replace HEU := Lib.hid (HEU.out.below hb)
          replace HOX := Lib.hid (RowN.below HOX.out hb)
          clear hb c0 c1 c2 c3 c4
          have HST := Lib.hid (fun h => ed_lower (o := o) HU.out.1 h)
          obtain ⟨res, hres⟩ : ∃ res, edV [] U o = res := ⟨_, rfl⟩
          have HRS := Lib.hid hres
          rw [hres] at HST
          clear hres
          obtain ⟨n1, X⟩ := res
          go_wp2_with fail
          refine (LD [] none 0 U a3 cap3 o _ HS5.out.et (stk_nil14 _ _ _) HEU.out (by simp) (by simp) HSU.out HF.out HX.out).mono ?_
          rw [HRS.out]
          rintro e w6 ⟨a4, cap4, er, rfl, h9, e9, hb⟩
          have HS6 := Lib.hid (HS5.out.next hb)
          replace HEU := Lib.hid (HEU.out.below hb)
          replace HOX := Lib.hid (RowN.below HOX.out hb)
          have HEX := Lib.hid h9
          have HER := Lib.hid e9
          clear hb h9 e9
          go_wp2_with fail
          refine (code_er _ _ _ HER.out HS6.out.et).mono ?_
          rintro e w7 ⟨rfl, hb⟩
          have HS7 := Lib.hid (HS6.out.next hb)
          replace HEU := Lib.hid (HEU.out.below hb)
          replace HOX := Lib.hid (RowN.below HOX.out hb)
          replace HEX := Lib.hid (HEX.out.below hb)
          clear hb
          by_cases hn : n1 = 0
          · subst hn
            have HSX := Lib.hid (HST.out rfl)
            clear HST
            go_wp2
            go_roundg (gk - 1)
            case measure => omega
            case rel => exact ⟨k + 1, a4, cap4, X, rfl, by simp, by omega, HEX.out, HSX.out, HOX.out, HS7.out⟩
          · have g1 : ((n1 : Int) == 0) = false := beq_eq_false_iff_ne.2 hn
            clear hn
            go_wp2
            go_roundg (gk - 1)
            case measure => omega
            case rel => exact ⟨k + 1, a3, cap3, U, rfl, by simp, by omega, HEU.out, HU.out, HOX.out, HS7.out⟩
        · go_wp2_with fail
          refine (few11 o _).mono ?_
          rintro e w4 ⟨rfl, hb⟩
          rw [if_neg hf]
          have HS4 := Lib.hid (HS3.out.next hb)
          clear hb hf
          go_wp2
          go_ret
          exact ⟨by first | rfl | simp, HS4.out.below⟩
      · have hlt' : ¬ (k : Int) < (l.length : Int) := by omega
        go_wp2_with fail
        refine (LT U a3 cap3 _ HS3.out.et HEU.out HSU.out).mono ?_
        rintro e w4 ⟨rfl, hb⟩
        rw [decide_eq_true (show TreeL U from ⟨by have := HU.out.2.1; omega, HU.out.1⟩)]
        have HS4 := Lib.hid (HS3.out.next hb)
        replace HEU := Lib.hid (HEU.out.below hb)
        clear hb
        go_wp2_with fail
        refine (LR U a3 cap3 _ HS4.out.et HEU.out HSU.out).mono ?_
        rintro e w5 ⟨rfl, hb⟩
        rw [decide_eq_true HU.out.2]
        have HS5 := Lib.hid (HS4.out.next hb)
        clear hb
        go_wp2
        go_ret
        exact ⟨by first | rfl | simp, HS5.out.below⟩
end Go.Proofs.YtjliagcalbdnhaaGreatDoor
