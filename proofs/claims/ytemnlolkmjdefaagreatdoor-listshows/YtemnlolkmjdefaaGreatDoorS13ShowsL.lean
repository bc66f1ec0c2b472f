/-
  The law ListShows walked over Names13 and Look12: for every stack and two texts it returns true and changes nothing that was there. Conditions: package list answers as Names13 says, package look as Look12; the stack lies in memory; errorType holds error's type.
-/
import Derived.Test.YtemnlolkmjdefaaGreatDoorPc
import Derived.Test.YtemnlolkmjdefaaGreatDoorS13Awake
import Derived.Test.YtemnlolkmjdefaaGreatDoorS12Few
import Derived.Test.YtemnlolkmjdefaaGreatDoorS9Par
import Derived.Test.YtemnlolkmjdefaaGreatDoorS3Ref
import Derived.Test.YtemnlolkmjdefaaGreatDoorPd
import Derived.Test.YtemnlolkmjdefaaGreatDoorS13Show
import Derived.BigQuiet
namespace Go.Proofs.YtemnlolkmjdefaaGreatDoor
open Go.RowKit

/-- A text's value. -/
def IsSv (v : Value) : Prop := ∃ s, v = .string s
/-- One text at most another one. -/
def svLeq : Value → Value → Bool
  | .string u, .string v => Op.bytesLess u.toList v.toList || u.toList == v.toList
  | _, _ => false
theorem isSv_str (s : ByteArray) : IsSv (.string s) = True := eq_true ⟨s, rfl⟩
theorem svLeq_str (u v : ByteArray) : svLeq (.string u) (.string v) = (Op.bytesLess u.toList v.toList || u.toList == v.toList) := rfl
theorem run_leqS (w : World) (u v : ByteArray) : (binOp .leq 9 (.string u) (.string v)).run Tryz.prog w = .ok (.bool (svLeq (.string u) (.string v))) w := by kernel_rfl
theorem guard_leqS (w : World) (x y : Operand) (u v : ByteArray) : (eqGuard .leq 9 x y (.string u) (.string v)).run Tryz.prog w = .ok () w := by kernel_rfl
theorem dq_leqS {d : Option Tmp} {ty t2 : TypeId} {pos : String} {af : Array Edge} {g : Option (Nat × Bool)} {x y : Operand} {a : Act} {w0 : World} {K : Act → Prop} (hx : IsSv (a.eval x)) (hy : IsSv (a.eval y)) :
    Oper.quiet Tryz.prog { dst := d, op := .binOp .leq 9 x y t2, type := ty, pos := pos, after := af, guard := g } a (fun w' => ∃ n, w' = w0.drewN n) K = K (a.put d (.bool (svLeq (a.eval x) (a.eval y)))) := by
  refine quiet_eq9 (w0 := w0) ⟨0, rfl⟩ fun w _ => ?_
  obtain ⟨u, h1⟩ := hx
  obtain ⟨v, h2⟩ := hy
  unfold execOp
  rw [h1, h2]
  simp only [Sem.run_bind, Sem.run_pure, Result.andThen_ok, h1, h2, guard_leqS, run_leqS]
attribute [local go_sem ↓] dq_leqS
attribute [local go_sem] isSv_str svLeq_str
theorem nav_err13 {S : List (List Ent)} {p : List UInt8} (h : (naV S p).1 ≠ 0) : (naV S p).2 = [] := by
  unfold naV at h ⊢
  split
  · rfl
  · rename_i h9
    rw [if_neg h9] at h
    exact absurd rfl h
theorem nav_ok {S : List (List Ent)} {p : List UInt8} (h : (naV S p).1 = 0) : LkOK S := by
  by_cases h1 : LkOK S
  · exact h1
  · unfold naV drV at h
    rw [lkV_bad h1] at h
    cases h
theorem nav_names {S : List (List Ent)} {p : List UInt8} (h : (naV S p).1 = 0) : (naV S p).2 = nmB (stk S) p := by
  unfold naV at h ⊢
  split at h
  · rename_i h1
    exact absurd h h1
  · rename_i h1
    rw [if_neg h1]
theorem nav_path {S : List (List Ent)} {p : List UInt8} (h : (naV S p).1 = 0) : isP p := by
  have hok := nav_ok h
  by_cases h1 : isP p
  · exact h1
  · unfold naV drV at h
    rw [lkV_ok hok, atS_bad h1] at h
    cases h
theorem row_atq {w w' : World} {a : Option Addr} {cap : Nat} {L : List (List UInt8)} (h : Row w a cap (L.map bs)) (hb : Below w.heap.size w w') {k : Nat} {x : List UInt8} (hx : L[k]? = some x) : ∃ b off, a = some ⟨b, off, none⟩ ∧ w'.cell? ⟨b, off + k, none⟩ = some (.string (bs x)) := by
  obtain ⟨h1, h2⟩ := List.getElem?_eq_some_iff.1 hx
  obtain ⟨b, off, e, hc⟩ := Row.at9 h hb (k := k) (by simpa using h1)
  refine ⟨b, off, e, ?_⟩
  rw [List.getElem_map, h2] at hc
  exact hc
set_option maxRecDepth 10000 in
set_option maxHeartbeats 8000000 in
theorem lawShows13 (LN : Names13) (L : Look12) (S : List (List Ent)) (p s : ByteArray) (a : Option Addr) (cap : Nat) (W : World) (hg : EtLaid W) (hk : Stk W a cap S) : Calls Tryz.prog 5 #[.slice a S.length cap, .string p, .string s] W fun e w' => e = .returned (.bool true) ∧ Below W.heap.size W w' := by
  have HS0 := Lib.hid (st_self hg)
  have HK := Lib.hid hk
  clear hg hk
  by_cases hf : FewOK S
  · have hF1 : (if FewOK S then (1 : Int) else 0) = 1 := if_pos hf
    have HFW := Lib.hid hf
    have HSS := Lib.hid (few_sm12 hf)
    clear hf
    by_cases hp : (60 : Int) < (p.size : Int)
    · go_enter Tryz.func5, Tryz.ntmps5
      go_wp2_with fail
      refine (awake13 LN _ HS0.out.et).mono ?_
      rintro e w1 ⟨rfl, hb⟩
      have HS1 := Lib.hid (HS0.out.next hb)
      replace HK := Lib.hid (HK.out.below hb)
      clear hb
      go_wp2_with fail
      refine (few10 S a cap _ HK.out).mono ?_
      rintro e w9 ⟨rfl, rfl⟩
      rw [hF1]
      go_wp2_with fail
      refine (awake13 LN _ HS1.out.et).mono ?_
      rintro e w2 ⟨rfl, hb⟩
      have HS2 := Lib.hid (HS1.out.next hb)
      replace HK := Lib.hid (HK.out.below hb)
      clear hb
      go_wp2
      go_ret
      exact ⟨by first | rfl | simp, HS2.out.below⟩
    · by_cases hs : (20 : Int) < (s.size : Int)
      · go_enter Tryz.func5, Tryz.ntmps5
        go_wp2_with fail
        refine (awake13 LN _ HS0.out.et).mono ?_
        rintro e w1 ⟨rfl, hb⟩
        have HS1 := Lib.hid (HS0.out.next hb)
        replace HK := Lib.hid (HK.out.below hb)
        clear hb
        go_wp2_with fail
        refine (few10 S a cap _ HK.out).mono ?_
        rintro e w9 ⟨rfl, rfl⟩
        rw [hF1]
        go_wp2_with fail
        refine (awake13 LN _ HS1.out.et).mono ?_
        rintro e w2 ⟨rfl, hb⟩
        have HS2 := Lib.hid (HS1.out.next hb)
        replace HK := Lib.hid (HK.out.below hb)
        clear hb
        go_wp2
        go_ret
        exact ⟨by first | rfl | simp, HS2.out.below⟩
      · have HP := Lib.hid (show p.size ≤ 60 by omega)
        have HSZ := Lib.hid (show s.size ≤ 20 by omega)
        have z1 : ¬ 9223372036854775807 < p.size + 1 := by omega
        have z2 : ¬ 9223372036854775807 < p.size + 1 + s.size := by omega
        have z3 : ¬ 9223372036854775807 < p.size + s.size := by omega
        obtain ⟨r, hr⟩ : ∃ r, naV S p.data.toList = r := ⟨_, rfl⟩
        have HNE := Lib.hid (show r.1 ≠ 0 → r.2 = [] by rw [← hr]; exact nav_err13)
        have HNM : Hid (∀ w, EtLaid w → Stk w a cap S → Calls Tryz.prog 11 #[.slice a S.length cap, .string p] w fun e w' => ∃ a' cap' er, e = .returned (.tuple #[.slice a' r.2.length cap', er]) ∧ Row w' a' cap' r.2 ∧ Er w' r.1 er ∧ Below w.heap.size w w') := fun w h1 h2 => by
          have := LN S a cap p w h1 h2 HSS.out.1 HSS.out.2 (by have := HP.out; omega)
          rw [hr] at this
          exact this
        obtain ⟨n1, N⟩ := r
        by_cases h0 : n1 = 0
        · subst h0
          have hok := nav_ok (S := S) (p := p.data.toList) (by rw [hr])
          have hnn : (nmsV (stk S) p.data.toList).map bs = N := by
            have h9 := nav_names (S := S) (p := p.data.toList) (by rw [hr])
            rw [hr] at h9
            exact h9.symm
          have HIP := Lib.hid (nav_path (S := S) (p := p.data.toList) (by rw [hr]))
          have HASC := Lib.hid (nms_asc (tr_stk hok.2) p.data.toList)
          have HXL := Lib.hid (show (nmsV (stk S) p.data.toList).length ≤ 576 by
            have h1 := nmB_len (stk S) p.data.toList
            have h2 := stk_len hok.2
            have h3 := hok.1
            unfold nmB at h1
            rw [List.length_map] at h1
            omega)
          obtain ⟨X, hX⟩ : ∃ X, nmsV (stk S) p.data.toList = X := ⟨_, rfl⟩
          rw [hX] at hnn HASC HXL
          subst hnn
          simp only [List.length_map] at HNM
          clear HNE
          by_cases hroot : p.data.toList = [47]
          · have groot : (p.toList == [47]) = true := by rw [Lib.toList_data, beq_iff_eq]; exact hroot
            obtain ⟨q9, hq9⟩ : ∃ q, p ++ (⟨#[47]⟩ : ByteArray) ++ s = q := ⟨_, rfl⟩
            obtain ⟨q, hq⟩ : ∃ q, p ++ s = q := ⟨_, rfl⟩
            have HQB := Lib.hid (show q.data.toList = at13 p.data.toList s.data.toList by rw [← hq, at13, if_pos hroot]; simp [hroot])
            have hlk : lkV S q.data.toList = atS S q.data.toList := lkV_ok hok _
            obtain ⟨m1, hm1⟩ : ∃ m, (atS S q.data.toList).1 = m := ⟨_, rfl⟩
            obtain ⟨yv, hyv⟩ : ∃ y, (atS S q.data.toList).2 = y := ⟨_, rfl⟩
            have HQ := Lib.hid (show q.size ≤ 100000 by rw [Lib.size_eq, HQB.out]; have h1 := HP.out; have h2 := HSZ.out; rw [Lib.size_eq] at h1 h2; unfold at13; split <;> simp <;> omega)
            have HAT : Hid (∀ w, EtLaid w → Stk w a cap S → Calls Tryz.prog 19 #[.slice a S.length cap, .string q] w fun e w' => ∃ er, e = .returned (.tuple #[fdnV yv, er]) ∧ Er w' m1 er ∧ Below w.heap.size w w') := fun w h1 h2 => by
              have := L S a cap q w h1 h2 HSS.out.1 HSS.out.2 HQ.out
              rw [hlk, hm1, hyv] at this
              exact this
            have HIF := Lib.hid (fun (h1 : (47 : UInt8) ∉ s.data.toList) (h2 : s.data.toList ≠ []) => show s.data.toList ∈ X ↔ m1 = 0 by rw [← hX, ← hm1, HQB.out]; exact show_iff hok.2 HIP.out h1 h2)
            have HPT := Lib.hid (fun (h0 : m1 = 0) => show yv.1.1 = q by
              rw [← hyv]
              refine ba_ext ?_
              have hq : isP q.data.toList := by
                by_cases h1 : isP q.data.toList
                · exact h1
                · rw [atS_bad h1] at hm1
                  rw [h0] at hm1
                  cases hm1
              exact ((look_all hok.2 _ hq).2.2.2 (hm1.trans h0)).1)
            clear hlk hm1 hyv
            clear hok hr hX hroot
            go_enter Tryz.func5, Tryz.ntmps5
            go_wp2_with fail
            refine (awake13 LN _ HS0.out.et).mono ?_
            rintro e w1 ⟨rfl, hb⟩
            have HS1 := Lib.hid (HS0.out.next hb)
            replace HK := Lib.hid (HK.out.below hb)
            clear hb
            go_wp2_with fail
            refine (few10 S a cap _ HK.out).mono ?_
            rintro e w9 ⟨rfl, rfl⟩
            rw [hF1]
            go_wp2_with fail
            refine (HNM.out _ HS1.out.et HK.out).mono ?_
            rintro e w2 ⟨a1, c1, er1, rfl, h9, e9, hb⟩
            have HA := Lib.hid h9
            have HE1 := Lib.hid e9
            clear h9 e9
            have HS2 := Lib.hid (HS1.out.next hb)
            replace HK := Lib.hid (HK.out.below hb)
            clear hb
            go_wp2_with fail
            refine (code_er _ _ _ HE1.out HS2.out.et).mono ?_
            rintro e w3 ⟨rfl, hb⟩
            have HS3 := Lib.hid (HS2.out.next hb)
            replace HK := Lib.hid (HK.out.below hb)
            replace HA := Lib.hid (HA.out.below hb)
            replace HE1 := Lib.hid (HE1.out.below hb)
            clear hb
            go_wp2
            go_loopg [10, 11] X.length (fun g u j wx => ∃ k : Nat, u = .bool (decide (s.data.toList ∈ X.take k)) ∧ j = .int .i64 (k : Int) ∧ k + g = X.length ∧ Hid (Below w3.heap.size w3 wx))
            case atStart => exact ⟨0, by simp, rfl, by omega, Below.refl _ _⟩
            case round =>
              obtain ⟨k, rfl, rfl, hk, HBX⟩ := hrel
              have hxl := HXL.out
              have hw : IntKind.i64.wrap ((k : Int) + 1) = (k : Int) + 1 := IntWalk.i64_in _ (by omega)
              by_cases hlt : k < X.length
              · have hlt' : (k : Int) < (X.length : Int) := by omega
                have hd9 : decide ((k : Int) < (X.length : Int)) = true := decide_eq_true hlt'
                obtain ⟨b1, o1, rfl, hc1⟩ := row_atq HA.out HBX.out (List.getElem?_eq_getElem hlt)
                have HT := Lib.hid (show X.take (k + 1) = X.take k ++ [X[k]] by rw [List.take_add_one, List.getElem?_eq_getElem hlt]; rfl)
                have HUP := Lib.hid (fun (h0 : 0 < k) => show lt8 (X[k - 1]'(by omega)) X[k] = true from List.pairwise_iff_getElem.1 HASC.out (k - 1) k (by omega) hlt (by omega))
                obtain ⟨x, hx⟩ : ∃ x, X[k] = x := ⟨_, rfl⟩
                rw [hx] at hc1 HT HUP
                obtain ⟨y, hy⟩ : ∃ y, bs x = y := ⟨_, rfl⟩
                have HYX := Lib.hid (show y.data.toList = x by rw [← hy, bs_list])
                rw [hy] at hc1
                clear hx hy
                obtain ⟨f, hf⟩ : ∃ f, decide (s.data.toList ∈ X.take k) = f := ⟨_, rfl⟩
                have HF := Lib.hid hf
                rw [hf]
                clear hf
                obtain ⟨f2, hf2⟩ : ∃ f2, decide (s.data.toList ∈ X.take (k + 1)) = f2 := ⟨_, rfl⟩
                have HF2 := Lib.hid hf2
                have hff : f2 = (f || (y.toList == s.toList)) := by
                  rw [← hf2, ← HF.out, HT.out, Bool.eq_iff_iff]
                  simp only [Bool.or_eq_true, decide_eq_true_iff, List.mem_append, List.mem_singleton, beq_iff_eq, Lib.toList_data, HYX.out]
                  exact or_congr Iff.rfl eq_comm
                have HFF := Lib.hid hff
                clear hf2 hff
                by_cases hk0 : 0 < k
                · have gk0 : decide ((0 : Int) < (k : Int)) = true := decide_eq_true (by omega)
                  have hwk : IntKind.i64.wrap ((k : Int) - 1) = ((k - 1 : Nat) : Int) := by rw [IntWalk.i64_in _ (by omega)]; omega
                  have hk1 : ((k - 1 : Nat) : Int) < (X.length : Int) := by omega
                  obtain ⟨b2, o2, e2, hc2⟩ := row_atq HA.out HBX.out (List.getElem?_eq_getElem (show k - 1 < X.length by omega))
                  cases e2
                  have hup := HUP.out hk0
                  obtain ⟨x2, hx2⟩ : ∃ x, X[k - 1]'(by omega) = x := ⟨_, rfl⟩
                  rw [hx2] at hc2 hup
                  obtain ⟨y2, hy2⟩ : ∃ y, bs x2 = y := ⟨_, rfl⟩
                  have hls : Op.bytesLess y2.data.toList y.data.toList = true := by rw [HYX.out, ← hy2, bs_list]; exact hup
                  have hls2 : Op.bytesLess y.toList y2.toList = false := by rw [Lib.toList_data, Lib.toList_data]; exact lt8_asymm (a := y2.data.toList) (b := y.data.toList) hls
                  have hls3 : (y.toList == y2.toList) = false := by
                    rw [beq_eq_false_iff_ne, Lib.toList_data, Lib.toList_data]
                    exact fun e => lt8_ne (a := y2.data.toList) (b := y.data.toList) hls e.symm
                  rw [hy2] at hc2
                  clear hx2 hy2 hup
                  obtain ⟨z, hz⟩ : ∃ z, k - 1 = z := ⟨_, rfl⟩
                  rw [hz] at hwk hk1 hc2
                  clear hz
                  cases f with
                  | true =>
                    have HV := Lib.hid (show f2 = true by rw [HFF.out, Bool.true_or])
                    go_wp2
                    go_quiet (fail)
                    go_wp2
                    go_roundg (gk - 1)
                    case measure => omega
                    case rel => exact ⟨k + 1, by rw [HF2.out, HV.out], by simp, by omega, below_drewX HBX.out _⟩
                  | false =>
                    have HV := Lib.hid (show f2 = (y.toList == s.toList) by rw [HFF.out, Bool.false_or])
                    go_wp2
                    go_quiet (fail)
                    go_wp2
                    go_roundg (gk - 1)
                    case measure => omega
                    case rel => exact ⟨k + 1, by rw [HF2.out, HV.out], by simp, by omega, below_drewX HBX.out _⟩
                · obtain rfl : k = 0 := by omega
                  rw [Nat.add_zero] at hc1
                  cases f with
                  | true =>
                    have HV := Lib.hid (show f2 = true by rw [HFF.out, Bool.true_or])
                    go_wp2
                    go_quiet (fail)
                    go_wp2
                    go_roundg (gk - 1)
                    case measure => omega
                    case rel => exact ⟨0 + 1, by rw [HF2.out, HV.out], by simp, by omega, below_drewX HBX.out _⟩
                  | false =>
                    have HV := Lib.hid (show f2 = (y.toList == s.toList) by rw [HFF.out, Bool.false_or])
                    go_wp2
                    go_quiet (fail)
                    go_wp2
                    go_roundg (gk - 1)
                    case measure => omega
                    case rel => exact ⟨0 + 1, by rw [HF2.out, HV.out], by simp, by omega, below_drewX HBX.out _⟩
              · have hlt' : ¬ (k : Int) < (X.length : Int) := by omega
                have hd9 : decide ((k : Int) < (X.length : Int)) = false := decide_eq_false hlt'
                rw [show X.take k = X from List.take_of_length_le (by omega)]
                obtain ⟨f, hf⟩ : ∃ f, decide (s.data.toList ∈ X) = f := ⟨_, rfl⟩
                have HF := Lib.hid hf
                rw [hf]
                clear hf
                have HSX := Lib.hid (HS3.out.next HBX.out)
                have HKX := Lib.hid (HK.out.below HBX.out)
                go_wp2_with fail
                refine (HAT.out _ HSX.out.et HKX.out).mono ?_
                rintro e w80 ⟨er2, rfl, e9, hb⟩
                obtain ⟨Vy, Uy, My, hVy, hMy, hUy, hv, hu, hb2⟩ := fd_box w80 yv
                have v0 := hv.c0
                have v1 := hv.c1
                have v2 := hv.c2
                have v3 := hv.c3
                have vf0 := hv.f0
                have vf1 := hv.f1
                have vf2 := hv.f2
                have vf3 := hv.f3
                have HSY := Lib.hid ((HSX.out.next hb).next hb2)
                have HE2 := Lib.hid (e9.below hb2)
                have HFB := Lib.hid hu
                clear hb hb2 hv hu e9
                go_wp2
                clear v0 v1 v2 v3 vf0 vf1 vf2 vf3 hVy hMy hUy
                go_loopg [14, 15] s.size (fun g u j wx => ∃ k : Nat, u = .bool (decide ((47 : UInt8) ∈ s.data.toList.take k)) ∧ j = .int .i64 (k : Int) ∧ k + g = s.size ∧ wx = Uy)
                case atStart => exact ⟨0, by simp, rfl, by omega, rfl⟩
                case round =>
                  obtain ⟨k, rfl, rfl, hk, rfl⟩ := hrel
                  have hsz := HSZ.out
                  have hw : IntKind.i64.wrap ((k : Int) + 1) = (k : Int) + 1 := IntWalk.i64_in _ (by omega)
                  by_cases hlt : k < s.size
                  · have hlt' : (k : Int) < (s.size : Int) := by omega
                    have hd9 : decide ((k : Int) < (s.size : Int)) = true := decide_eq_true hlt'
                    have HT := Lib.hid (take_at s k hlt)
                    obtain ⟨c, hc⟩ : ∃ c, s[k] = c := ⟨_, rfl⟩
                    rw [hc] at HT
                    obtain ⟨d, hd⟩ : ∃ d, decide ((47 : UInt8) ∈ s.data.toList.take k) = d := ⟨_, rfl⟩
                    rw [hd]
                    have HDN := Lib.hid (show decide ((47 : UInt8) ∈ s.data.toList.take (k + 1)) = (d || decide (47 = c)) by
                      rw [HT.out, ← hd, Bool.eq_iff_iff]
                      simp only [Bool.or_eq_true, decide_eq_true_iff, List.mem_append, List.mem_singleton])
                    clear hd
                    by_cases h47 : 47 = c
                    · have g47 : ((c.toNat : Int) == 47) = true := by rw [← h47]; rfl
                      have HV := Lib.hid (HDN.out.trans (show (d || decide (47 = c)) = true by rw [decide_eq_true h47, Bool.or_true]))
                      clear h47
                      cases d
                      all_goals
                        go_wp2
                        go_roundg (gk - 1)
                        case measure => omega
                        case rel => exact ⟨k + 1, by rw [HV.out], by simp, by omega, rfl⟩
                    · have g47 : ((c.toNat : Int) == 47) = false := by
                        rw [beq_eq_false_iff_ne]
                        intro e
                        exact h47 (UInt8.toNat_inj.1 (by show 47 = c.toNat; omega))
                      have HV := Lib.hid (HDN.out.trans (show (d || decide (47 = c)) = d by rw [decide_eq_false h47, Bool.or_false]))
                      clear h47
                      cases d
                      all_goals
                        go_wp2
                        go_roundg (gk - 1)
                        case measure => omega
                        case rel => exact ⟨k + 1, by rw [HV.out], by simp, by omega, rfl⟩
                  · have hlt' : ¬ (k : Int) < (s.size : Int) := by omega
                    have hd9 : decide ((k : Int) < (s.size : Int)) = false := decide_eq_false hlt'
                    rw [show s.data.toList.take k = s.data.toList from List.take_of_length_le (by rw [← Lib.size_eq]; omega)]
                    by_cases hde : (47 : UInt8) ∈ s.data.toList
                    · rw [decide_eq_true hde]
                      go_wp2
                      go_ret
                      exact ⟨by first | rfl | simp, HSY.out.below⟩
                    · rw [decide_eq_false hde]
                      by_cases hem : s.size = 0
                      · have gem : ((s.size : Int) == 0) = true := by rw [hem]; rfl
                        go_wp2
                        go_ret
                        exact ⟨by first | rfl | simp, HSY.out.below⟩
                      · have gem : ((s.size : Int) == 0) = false := by rw [beq_eq_false_iff_ne]; omega
                        have hif := HIF.out hde fun e => hem (by rw [Lib.size_eq, e]; rfl)
                        by_cases h0 : m1 = 0
                        · subst h0
                          have HV := Lib.hid (show f = true by rw [← HF.out]; exact decide_eq_true (hif.2 rfl))
                          obtain rfl := HV.out
                          have q0 := HFB.out.c0
                          have HPQ := Lib.hid (HPT.out rfl)
                          rw [HPQ.out] at q0
                          have gqq : (q.toList == q.toList) = true := beq_iff_eq.2 rfl
                          clear hif
                          go_wp2_with fail
                          refine (code_er _ _ _ HE2.out HSY.out.et).mono ?_
                          rintro e w82 ⟨rfl, hb⟩
                          have HSZ2 := Lib.hid (HSY.out.next hb)
                          have q0 := (HFB.out.below hb).c0
                          rw [HPQ.out] at q0
                          clear hb
                          go_wp2
                          go_ret
                          exact ⟨by first | rfl | simp, HSZ2.out.below⟩
                        · have g0 : (m1 == 0) = false := beq_eq_false_iff_ne.2 h0
                          have HV := Lib.hid (show f = false by rw [← HF.out]; exact decide_eq_false fun h => h0 (hif.1 h))
                          obtain rfl := HV.out
                          clear hif h0
                          go_wp2_with fail
                          refine (code_er _ _ _ HE2.out HSY.out.et).mono ?_
                          rintro e w82 ⟨rfl, hb⟩
                          have HSZ2 := Lib.hid (HSY.out.next hb)
                          clear hb
                          go_wp2
                          go_ret
                          exact ⟨by first | rfl | simp, HSZ2.out.below⟩
          · have groot : (p.toList == [47]) = false := by rw [Lib.toList_data, beq_eq_false_iff_ne]; exact hroot
            obtain ⟨q, hq⟩ : ∃ q, p ++ (⟨#[47]⟩ : ByteArray) ++ s = q := ⟨_, rfl⟩
            have HQB := Lib.hid (show q.data.toList = at13 p.data.toList s.data.toList by rw [← hq, at13, if_neg hroot]; simp)
            have hlk : lkV S q.data.toList = atS S q.data.toList := lkV_ok hok _
            obtain ⟨m1, hm1⟩ : ∃ m, (atS S q.data.toList).1 = m := ⟨_, rfl⟩
            obtain ⟨yv, hyv⟩ : ∃ y, (atS S q.data.toList).2 = y := ⟨_, rfl⟩
            have HQ := Lib.hid (show q.size ≤ 100000 by rw [Lib.size_eq, HQB.out]; have h1 := HP.out; have h2 := HSZ.out; rw [Lib.size_eq] at h1 h2; unfold at13; split <;> simp <;> omega)
            have HAT : Hid (∀ w, EtLaid w → Stk w a cap S → Calls Tryz.prog 19 #[.slice a S.length cap, .string q] w fun e w' => ∃ er, e = .returned (.tuple #[fdnV yv, er]) ∧ Er w' m1 er ∧ Below w.heap.size w w') := fun w h1 h2 => by
              have := L S a cap q w h1 h2 HSS.out.1 HSS.out.2 HQ.out
              rw [hlk, hm1, hyv] at this
              exact this
            have HIF := Lib.hid (fun (h1 : (47 : UInt8) ∉ s.data.toList) (h2 : s.data.toList ≠ []) => show s.data.toList ∈ X ↔ m1 = 0 by rw [← hX, ← hm1, HQB.out]; exact show_iff hok.2 HIP.out h1 h2)
            have HPT := Lib.hid (fun (h0 : m1 = 0) => show yv.1.1 = q by
              rw [← hyv]
              refine ba_ext ?_
              have hq : isP q.data.toList := by
                by_cases h1 : isP q.data.toList
                · exact h1
                · rw [atS_bad h1] at hm1
                  rw [h0] at hm1
                  cases hm1
              exact ((look_all hok.2 _ hq).2.2.2 (hm1.trans h0)).1)
            clear hlk hm1 hyv
            clear hok hr hX hroot
            go_enter Tryz.func5, Tryz.ntmps5
            go_wp2_with fail
            refine (awake13 LN _ HS0.out.et).mono ?_
            rintro e w1 ⟨rfl, hb⟩
            have HS1 := Lib.hid (HS0.out.next hb)
            replace HK := Lib.hid (HK.out.below hb)
            clear hb
            go_wp2_with fail
            refine (few10 S a cap _ HK.out).mono ?_
            rintro e w9 ⟨rfl, rfl⟩
            rw [hF1]
            go_wp2_with fail
            refine (HNM.out _ HS1.out.et HK.out).mono ?_
            rintro e w2 ⟨a1, c1, er1, rfl, h9, e9, hb⟩
            have HA := Lib.hid h9
            have HE1 := Lib.hid e9
            clear h9 e9
            have HS2 := Lib.hid (HS1.out.next hb)
            replace HK := Lib.hid (HK.out.below hb)
            clear hb
            go_wp2_with fail
            refine (code_er _ _ _ HE1.out HS2.out.et).mono ?_
            rintro e w3 ⟨rfl, hb⟩
            have HS3 := Lib.hid (HS2.out.next hb)
            replace HK := Lib.hid (HK.out.below hb)
            replace HA := Lib.hid (HA.out.below hb)
            replace HE1 := Lib.hid (HE1.out.below hb)
            clear hb
            go_wp2
            go_loopg [10, 11] X.length (fun g u j wx => ∃ k : Nat, u = .bool (decide (s.data.toList ∈ X.take k)) ∧ j = .int .i64 (k : Int) ∧ k + g = X.length ∧ Hid (Below w3.heap.size w3 wx))
            case atStart => exact ⟨0, by simp, rfl, by omega, Below.refl _ _⟩
            case round =>
              obtain ⟨k, rfl, rfl, hk, HBX⟩ := hrel
              have hxl := HXL.out
              have hw : IntKind.i64.wrap ((k : Int) + 1) = (k : Int) + 1 := IntWalk.i64_in _ (by omega)
              by_cases hlt : k < X.length
              · have hlt' : (k : Int) < (X.length : Int) := by omega
                have hd9 : decide ((k : Int) < (X.length : Int)) = true := decide_eq_true hlt'
                obtain ⟨b1, o1, rfl, hc1⟩ := row_atq HA.out HBX.out (List.getElem?_eq_getElem hlt)
                have HT := Lib.hid (show X.take (k + 1) = X.take k ++ [X[k]] by rw [List.take_add_one, List.getElem?_eq_getElem hlt]; rfl)
                have HUP := Lib.hid (fun (h0 : 0 < k) => show lt8 (X[k - 1]'(by omega)) X[k] = true from List.pairwise_iff_getElem.1 HASC.out (k - 1) k (by omega) hlt (by omega))
                obtain ⟨x, hx⟩ : ∃ x, X[k] = x := ⟨_, rfl⟩
                rw [hx] at hc1 HT HUP
                obtain ⟨y, hy⟩ : ∃ y, bs x = y := ⟨_, rfl⟩
                have HYX := Lib.hid (show y.data.toList = x by rw [← hy, bs_list])
                rw [hy] at hc1
                clear hx hy
                obtain ⟨f, hf⟩ : ∃ f, decide (s.data.toList ∈ X.take k) = f := ⟨_, rfl⟩
                have HF := Lib.hid hf
                rw [hf]
                clear hf
                obtain ⟨f2, hf2⟩ : ∃ f2, decide (s.data.toList ∈ X.take (k + 1)) = f2 := ⟨_, rfl⟩
                have HF2 := Lib.hid hf2
                have hff : f2 = (f || (y.toList == s.toList)) := by
                  rw [← hf2, ← HF.out, HT.out, Bool.eq_iff_iff]
                  simp only [Bool.or_eq_true, decide_eq_true_iff, List.mem_append, List.mem_singleton, beq_iff_eq, Lib.toList_data, HYX.out]
                  exact or_congr Iff.rfl eq_comm
                have HFF := Lib.hid hff
                clear hf2 hff
                by_cases hk0 : 0 < k
                · have gk0 : decide ((0 : Int) < (k : Int)) = true := decide_eq_true (by omega)
                  have hwk : IntKind.i64.wrap ((k : Int) - 1) = ((k - 1 : Nat) : Int) := by rw [IntWalk.i64_in _ (by omega)]; omega
                  have hk1 : ((k - 1 : Nat) : Int) < (X.length : Int) := by omega
                  obtain ⟨b2, o2, e2, hc2⟩ := row_atq HA.out HBX.out (List.getElem?_eq_getElem (show k - 1 < X.length by omega))
                  cases e2
                  have hup := HUP.out hk0
                  obtain ⟨x2, hx2⟩ : ∃ x, X[k - 1]'(by omega) = x := ⟨_, rfl⟩
                  rw [hx2] at hc2 hup
                  obtain ⟨y2, hy2⟩ : ∃ y, bs x2 = y := ⟨_, rfl⟩
                  have hls : Op.bytesLess y2.data.toList y.data.toList = true := by rw [HYX.out, ← hy2, bs_list]; exact hup
                  have hls2 : Op.bytesLess y.toList y2.toList = false := by rw [Lib.toList_data, Lib.toList_data]; exact lt8_asymm (a := y2.data.toList) (b := y.data.toList) hls
                  have hls3 : (y.toList == y2.toList) = false := by
                    rw [beq_eq_false_iff_ne, Lib.toList_data, Lib.toList_data]
                    exact fun e => lt8_ne (a := y2.data.toList) (b := y.data.toList) hls e.symm
                  rw [hy2] at hc2
                  clear hx2 hy2 hup
                  obtain ⟨z, hz⟩ : ∃ z, k - 1 = z := ⟨_, rfl⟩
                  rw [hz] at hwk hk1 hc2
                  clear hz
                  cases f with
                  | true =>
                    have HV := Lib.hid (show f2 = true by rw [HFF.out, Bool.true_or])
                    go_wp2
                    go_quiet (fail)
                    go_wp2
                    go_roundg (gk - 1)
                    case measure => omega
                    case rel => exact ⟨k + 1, by rw [HF2.out, HV.out], by simp, by omega, below_drewX HBX.out _⟩
                  | false =>
                    have HV := Lib.hid (show f2 = (y.toList == s.toList) by rw [HFF.out, Bool.false_or])
                    go_wp2
                    go_quiet (fail)
                    go_wp2
                    go_roundg (gk - 1)
                    case measure => omega
                    case rel => exact ⟨k + 1, by rw [HF2.out, HV.out], by simp, by omega, below_drewX HBX.out _⟩
                · obtain rfl : k = 0 := by omega
                  rw [Nat.add_zero] at hc1
                  cases f with
                  | true =>
                    have HV := Lib.hid (show f2 = true by rw [HFF.out, Bool.true_or])
                    go_wp2
                    go_quiet (fail)
                    go_wp2
                    go_roundg (gk - 1)
                    case measure => omega
                    case rel => exact ⟨0 + 1, by rw [HF2.out, HV.out], by simp, by omega, below_drewX HBX.out _⟩
                  | false =>
                    have HV := Lib.hid (show f2 = (y.toList == s.toList) by rw [HFF.out, Bool.false_or])
                    go_wp2
                    go_quiet (fail)
                    go_wp2
                    go_roundg (gk - 1)
                    case measure => omega
                    case rel => exact ⟨0 + 1, by rw [HF2.out, HV.out], by simp, by omega, below_drewX HBX.out _⟩
              · have hlt' : ¬ (k : Int) < (X.length : Int) := by omega
                have hd9 : decide ((k : Int) < (X.length : Int)) = false := decide_eq_false hlt'
                rw [show X.take k = X from List.take_of_length_le (by omega)]
                obtain ⟨f, hf⟩ : ∃ f, decide (s.data.toList ∈ X) = f := ⟨_, rfl⟩
                have HF := Lib.hid hf
                rw [hf]
                clear hf
                have HSX := Lib.hid (HS3.out.next HBX.out)
                have HKX := Lib.hid (HK.out.below HBX.out)
                go_wp2_with fail
                refine (HAT.out _ HSX.out.et HKX.out).mono ?_
                rintro e w80 ⟨er2, rfl, e9, hb⟩
                obtain ⟨Vy, Uy, My, hVy, hMy, hUy, hv, hu, hb2⟩ := fd_box w80 yv
                have v0 := hv.c0
                have v1 := hv.c1
                have v2 := hv.c2
                have v3 := hv.c3
                have vf0 := hv.f0
                have vf1 := hv.f1
                have vf2 := hv.f2
                have vf3 := hv.f3
                have HSY := Lib.hid ((HSX.out.next hb).next hb2)
                have HE2 := Lib.hid (e9.below hb2)
                have HFB := Lib.hid hu
                clear hb hb2 hv hu e9
                go_wp2
                clear v0 v1 v2 v3 vf0 vf1 vf2 vf3 hVy hMy hUy
                go_loopg [14, 15] s.size (fun g u j wx => ∃ k : Nat, u = .bool (decide ((47 : UInt8) ∈ s.data.toList.take k)) ∧ j = .int .i64 (k : Int) ∧ k + g = s.size ∧ wx = Uy)
                case atStart => exact ⟨0, by simp, rfl, by omega, rfl⟩
                case round =>
                  obtain ⟨k, rfl, rfl, hk, rfl⟩ := hrel
                  have hsz := HSZ.out
                  have hw : IntKind.i64.wrap ((k : Int) + 1) = (k : Int) + 1 := IntWalk.i64_in _ (by omega)
                  by_cases hlt : k < s.size
                  · have hlt' : (k : Int) < (s.size : Int) := by omega
                    have hd9 : decide ((k : Int) < (s.size : Int)) = true := decide_eq_true hlt'
                    have HT := Lib.hid (take_at s k hlt)
                    obtain ⟨c, hc⟩ : ∃ c, s[k] = c := ⟨_, rfl⟩
                    rw [hc] at HT
                    obtain ⟨d, hd⟩ : ∃ d, decide ((47 : UInt8) ∈ s.data.toList.take k) = d := ⟨_, rfl⟩
                    rw [hd]
                    have HDN := Lib.hid (show decide ((47 : UInt8) ∈ s.data.toList.take (k + 1)) = (d || decide (47 = c)) by
                      rw [HT.out, ← hd, Bool.eq_iff_iff]
                      simp only [Bool.or_eq_true, decide_eq_true_iff, List.mem_append, List.mem_singleton])
                    clear hd
                    by_cases h47 : 47 = c
                    · have g47 : ((c.toNat : Int) == 47) = true := by rw [← h47]; rfl
                      have HV := Lib.hid (HDN.out.trans (show (d || decide (47 = c)) = true by rw [decide_eq_true h47, Bool.or_true]))
                      clear h47
                      cases d
                      all_goals
                        go_wp2
                        go_roundg (gk - 1)
                        case measure => omega
                        case rel => exact ⟨k + 1, by rw [HV.out], by simp, by omega, rfl⟩
                    · have g47 : ((c.toNat : Int) == 47) = false := by
                        rw [beq_eq_false_iff_ne]
                        intro e
                        exact h47 (UInt8.toNat_inj.1 (by show 47 = c.toNat; omega))
                      have HV := Lib.hid (HDN.out.trans (show (d || decide (47 = c)) = d by rw [decide_eq_false h47, Bool.or_false]))
                      clear h47
                      cases d
                      all_goals
                        go_wp2
                        go_roundg (gk - 1)
                        case measure => omega
                        case rel => exact ⟨k + 1, by rw [HV.out], by simp, by omega, rfl⟩
                  · have hlt' : ¬ (k : Int) < (s.size : Int) := by omega
                    have hd9 : decide ((k : Int) < (s.size : Int)) = false := decide_eq_false hlt'
                    rw [show s.data.toList.take k = s.data.toList from List.take_of_length_le (by rw [← Lib.size_eq]; omega)]
                    by_cases hde : (47 : UInt8) ∈ s.data.toList
                    · rw [decide_eq_true hde]
                      go_wp2
                      go_ret
                      exact ⟨by first | rfl | simp, HSY.out.below⟩
                    · rw [decide_eq_false hde]
                      by_cases hem : s.size = 0
                      · have gem : ((s.size : Int) == 0) = true := by rw [hem]; rfl
                        go_wp2
                        go_ret
                        exact ⟨by first | rfl | simp, HSY.out.below⟩
                      · have gem : ((s.size : Int) == 0) = false := by rw [beq_eq_false_iff_ne]; omega
                        have hif := HIF.out hde fun e => hem (by rw [Lib.size_eq, e]; rfl)
                        by_cases h0 : m1 = 0
                        · subst h0
                          have HV := Lib.hid (show f = true by rw [← HF.out]; exact decide_eq_true (hif.2 rfl))
                          obtain rfl := HV.out
                          have q0 := HFB.out.c0
                          have HPQ := Lib.hid (HPT.out rfl)
                          rw [HPQ.out] at q0
                          have gqq : (q.toList == q.toList) = true := beq_iff_eq.2 rfl
                          clear hif
                          go_wp2_with fail
                          refine (code_er _ _ _ HE2.out HSY.out.et).mono ?_
                          rintro e w82 ⟨rfl, hb⟩
                          have HSZ2 := Lib.hid (HSY.out.next hb)
                          have q0 := (HFB.out.below hb).c0
                          rw [HPQ.out] at q0
                          clear hb
                          go_wp2
                          go_ret
                          exact ⟨by first | rfl | simp, HSZ2.out.below⟩
                        · have g0 : (m1 == 0) = false := beq_eq_false_iff_ne.2 h0
                          have HV := Lib.hid (show f = false by rw [← HF.out]; exact decide_eq_false fun h => h0 (hif.1 h))
                          obtain rfl := HV.out
                          clear hif h0
                          go_wp2_with fail
                          refine (code_er _ _ _ HE2.out HSY.out.et).mono ?_
                          rintro e w82 ⟨rfl, hb⟩
                          have HSZ2 := Lib.hid (HSY.out.next hb)
                          clear hb
                          go_wp2
                          go_ret
                          exact ⟨by first | rfl | simp, HSZ2.out.below⟩
        · have g0 : (n1 == 0) = false := beq_eq_false_iff_ne.2 h0
          obtain rfl : N = [] := HNE.out h0
          clear h0 hr
          go_enter Tryz.func5, Tryz.ntmps5
          go_wp2_with fail
          refine (awake13 LN _ HS0.out.et).mono ?_
          rintro e w1 ⟨rfl, hb⟩
          have HS1 := Lib.hid (HS0.out.next hb)
          replace HK := Lib.hid (HK.out.below hb)
          clear hb
          go_wp2_with fail
          refine (few10 S a cap _ HK.out).mono ?_
          rintro e w9 ⟨rfl, rfl⟩
          rw [hF1]
          go_wp2_with fail
          refine (HNM.out _ HS1.out.et HK.out).mono ?_
          rintro e w2 ⟨a1, c1, er1, rfl, h9, e9, hb⟩
          have HA := Lib.hid h9
          have HE1 := Lib.hid e9
          clear h9 e9
          have HS2 := Lib.hid (HS1.out.next hb)
          replace HK := Lib.hid (HK.out.below hb)
          clear hb
          go_wp2_with fail
          refine (code_er _ _ _ HE1.out HS2.out.et).mono ?_
          rintro e w3 ⟨rfl, hb⟩
          have HS3 := Lib.hid (HS2.out.next hb)
          replace HK := Lib.hid (HK.out.below hb)
          replace HA := Lib.hid (HA.out.below hb)
          replace HE1 := Lib.hid (HE1.out.below hb)
          clear hb
          go_wp2
          go_ret
          exact ⟨by first | rfl | simp, HS3.out.below⟩
  · have hF1 : (if FewOK S then (1 : Int) else 0) = 0 := if_neg hf
    clear hf
    go_enter Tryz.func5, Tryz.ntmps5
    go_wp2_with fail
    refine (awake13 LN _ HS0.out.et).mono ?_
    rintro e w1 ⟨rfl, hb⟩
    have HS1 := Lib.hid (HS0.out.next hb)
    replace HK := Lib.hid (HK.out.below hb)
    clear hb
    go_wp2_with fail
    refine (few10 S a cap _ HK.out).mono ?_
    rintro e w9 ⟨rfl, rfl⟩
    rw [hF1]
    go_wp2_with fail
    refine (awake13 LN _ HS1.out.et).mono ?_
    rintro e w2 ⟨rfl, hb⟩
    have HS2 := Lib.hid (HS1.out.next hb)
    replace HK := Lib.hid (HK.out.below hb)
    clear hb
    go_wp2
    go_ret
    exact ⟨by first | rfl | simp, HS2.out.below⟩
end Go.Proofs.YtemnlolkmjdefaaGreatDoor
