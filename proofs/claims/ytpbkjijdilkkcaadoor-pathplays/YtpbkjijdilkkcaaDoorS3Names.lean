/-
  PathNames walked: for every list of texts it returns true and changes nothing that was there. Conditions: the list lies in memory; errorType holds error's type.
-/
import Derived.Test.YtpbkjijdilkkcaaDoorS3Parents
namespace Go.Proofs.YtpbkjijdilkkcaaDoor
open Go.RowKit

theorem isErr_no (w : World) (n : Int) : IsErr w n (.iface 42 (.int .i64 n)) := ⟨[], rfl⟩

set_option maxHeartbeats 2000000 in
theorem names_long (a : Option Addr) (len cap : Nat) (hl : 40 < len) (hz : len ≤ maxLen) (w : World) :
    Calls Tryd.prog 6 #[.slice a len cap] w fun e w' => e = .returned (.bool true) ∧ Below w.heap.size w w' := by
  unfold maxLen at hz
  have h1 : (40 : Int) < (len : Int) := by omega
  go_enter Tryd.func6, Tryd.ntmps6
  go_wp2_with fail
  refine (awake_any _).mono ?_
  rintro e w1 ⟨rfl, hb⟩
  have HB1 := Lib.hid hb
  clear hb
  go_wp2_with fail
  refine (awake_any _).mono ?_
  rintro e w2 ⟨rfl, hb⟩
  have HB2 := Lib.hid (HB1.out.trans (hb.mono HB1.out.size))
  clear hb
  go_wp2
  go_ret
  exact ⟨rfl, HB2.out⟩

/-- an element of a row, in any world that has grown from it -/
theorem Row.at {w w' : World} {a : Option Addr} {cap : Nat} {ns : List ByteArray} (h : Row w a cap ns) (hb : Below w.heap.size w w') {k : Nat} (hk : k < ns.length) :
    ∃ b off x, a = some ⟨b, off, none⟩ ∧ w'.cell? ⟨b, off + k, none⟩ = some (.string x) ∧ ns[k]? = some x ∧ ns.take (k + 1) = ns.take k ++ [x] := by
  rcases h.2 with h0 | ⟨b, off, rfl, hlt, hc⟩
  · rw [h0] at hk; simp at hk
  · obtain ⟨x, hx⟩ : ∃ x, ns[k]? = some x := ⟨ns[k], List.getElem?_eq_getElem hk⟩
    exact ⟨b, off, x, rfl, (hb.cell (p := ⟨b, off + k, none⟩) hlt).trans (hc k x hx), hx, by rw [List.take_add_one, hx]; rfl⟩

set_option maxHeartbeats 8000000 in
theorem names_short (a : Option Addr) (cap : Nat) (S : List ByteArray) (hl : S.length ≤ 40) (w : World) (hr : Row w a cap S) (hg : EtLaid w) :
    Calls Tryd.prog 6 #[.slice a S.length cap] w fun e w' => e = .returned (.bool true) ∧ Below w.heap.size w w' := by
  have HR := Lib.hid hr
  have HG := Lib.hid hg
  obtain ⟨N, hN⟩ : ∃ N, S.length = N := ⟨_, rfl⟩
  have HN := Lib.hid hN
  rw [hN] at hl ⊢
  have h40 : ¬ (40 : Int) < (N : Int) := by omega
  clear hr hg hN
  go_enter Tryd.func6, Tryd.ntmps6
  go_wp2_with fail
  refine (awake_any _).mono ?_
  rintro e w1 ⟨rfl, hb⟩
  have HB1 := Lib.hid hb
  clear hb
  go_wp2
  go_loopg [3, 4] N (fun g vr vi wx => ∃ (k : Nat) (r : Bool), vr = .bool r ∧ vi = .int .i64 (k : Int) ∧ k + g = N ∧ Hid (Below w.heap.size w wx) ∧ Hid (r = (decide (N ≤ 6) && (lists (S.take k)).all nm)))
  case atStart => exact ⟨0, _, rfl, rfl, by omega, HB1.out, by show _ = _; rw [Bool.eq_iff_iff]; simp [lists]; omega⟩
  case round =>
    obtain ⟨k, r, rfl, rfl, hk, HB, HV⟩ := hrel
    by_cases hlt : k < N
    · have hlt' : (k : Int) < (N : Int) := by omega
      have hw : IntKind.i64.wrap ((k : Int) + 1) = (k : Int) + 1 := IntWalk.i64_in _ (by omega)
      obtain ⟨b, off, x, rfl, hc, hx, ht⟩ := HR.out.at HB.out (k := k) (by have := HN.out; omega)
      have HT := Lib.hid ht
      clear hx ht
      cases r with
      | true =>
        go_wp2_with fail
        refine (name_any x _).mono ?_
        rintro e w2 ⟨rfl, hb⟩
        have HB2 := Lib.hid (HB.out.trans (hb.mono HB.out.size))
        clear hb
        go_wp2
        go_roundg (gk - 1)
        case measure => omega
        case rel => exact ⟨k + 1, _, rfl, by simp, by omega, HB2.out, by show _ = _; have := HV.out; rw [HT.out, lists_append, List.all_append, ← Bool.and_assoc, ← this]; simp [lists]⟩
      | false =>
        go_wp2
        go_roundg (gk - 1)
        case measure => omega
        case rel => exact ⟨k + 1, _, rfl, by simp, by omega, HB.out, by show _ = _; have := HV.out; rw [HT.out, lists_append, List.all_append, ← Bool.and_assoc, ← this]; simp⟩
    · have hkN : k = N := by omega
      have hlt' : ¬ (k : Int) < (N : Int) := by omega
      have hv : r = (decide (N ≤ 6) && (lists S).all nm) := by
        have := HV.out
        rwa [hkN, ← HN.out, List.take_length, HN.out] at this
      have hR2 := HR.out.below HB1.out
      by_cases h6 : N ≤ 6
      · cases hall : (lists S).all nm with
        | true =>
          have hr : r = true := by rw [hv, hall]; simpa using h6
          subst hr
          have hgd : good (lists S) := ⟨by simpa [lists, HN.out] using h6, by rw [List.all_eq_true] at hall; exact hall⟩
          have hj := join_good a cap S wr (HR.out.below HB.out) hgd
          rw [HN.out] at hj
          have HJ := Lib.hid hj
          have HD := Lib.hid (show dp (pth (lists S)) = (N : Int) by rw [dp_pos (isP_pth hgd), pcs_pth hgd.2]; simp [lists, HN.out])
          have HLn := Lib.hid (isP_len (isP_pth hgd))
          clear hj hgd hv hall hR2
          go_wp2_with fail
          refine HJ.out.mono ?_
          rintro e w3 ⟨p, rfl, hp, hb⟩
          have HB3 := Lib.hid (HB.out.trans (hb.mono HB.out.size))
          have HP := Lib.hid hp
          clear hb hp
          go_wp2_with fail
          refine (code_nil w3).mono ?_
          rintro e w4 ⟨rfl, rfl⟩
          go_wp2_with fail
          refine (deep_any p (by have := HLn.out; rw [← HP.out, ← Lib.size_eq] at this; omega) w3).mono ?_
          rintro e w5 ⟨rfl, hb⟩
          have HB5 := Lib.hid (HB3.out.trans (hb.mono HB3.out.size))
          clear hb
          rw [HP.out, HD.out]
          go_wp2
          go_ret
          exact ⟨by simp, HB5.out⟩
        | false =>
          have hr : r = false := by rw [hv, hall]; simp
          subst hr
          have hj := join_bad a cap S (by rw [HN.out]; exact h6) wr (HR.out.below HB.out) hall
          rw [HN.out] at hj
          have HJ := Lib.hid hj
          clear hj hv hall hR2
          go_wp2_with fail
          refine HJ.out.mono ?_
          rintro e w3 ⟨rfl, hb⟩
          have HB3 := Lib.hid (HB.out.trans (hb.mono HB.out.size))
          clear hb
          go_wp2_with fail
          refine (code_err 2 _ w3 (isErr_no _ _) (HG.out.below HG.out.lt HB3.out)).mono ?_
          rintro e w4 ⟨rfl, hb⟩
          have HB4 := Lib.hid (HB3.out.trans (hb.mono HB3.out.size))
          clear hb
          go_wp2
          go_ret
          exact ⟨rfl, HB4.out⟩
      · have hr : r = false := by rw [hv]; simp [h6]
        subst hr
        have HJ := Lib.hid (join_long a cap N (by omega) (by unfold maxLen; omega) wr)
        clear hv hR2
        go_wp2_with fail
        refine HJ.out.mono ?_
        rintro e w3 ⟨rfl, hw3⟩
        have HB3 := Lib.hid (hw3 ▸ HB.out)
        clear hw3
        go_wp2_with fail
        refine (code_err 2 _ w3 (isErr_no _ _) (HG.out.below HG.out.lt HB3.out)).mono ?_
        rintro e w4 ⟨rfl, hb⟩
        have HB4 := Lib.hid (HB3.out.trans (hb.mono HB3.out.size))
        clear hb
        go_wp2
        go_ret
        exact ⟨rfl, HB4.out⟩

theorem names_any (a : Option Addr) (cap : Nat) (S : List ByteArray) (hm : S.length ≤ maxLen) (w : World) (hr : Row w a cap S) (hg : EtLaid w) :
    Calls Tryd.prog 6 #[.slice a S.length cap] w fun e w' => e = .returned (.bool true) ∧ Below w.heap.size w w' := by
  by_cases h : S.length ≤ 40
  · exact names_short a cap S h w hr hg
  · exact names_long a S.length cap (by omega) hm w
end Go.Proofs.YtpbkjijdilkkcaaDoor
