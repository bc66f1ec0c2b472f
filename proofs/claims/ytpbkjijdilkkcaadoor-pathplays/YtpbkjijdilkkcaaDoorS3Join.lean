/-
  Contracts of slices.ContainsFunc over path.Join's closure, and of path.Join: for every list of texts. Condition: the list lies in memory.
-/
import Derived.Test.YtpbkjijdilkkcaaDoorS3Path2
import Derived.Test.YtpbkjijdilkkcaaDoorShelf
namespace Go.Proofs.YtpbkjijdilkkcaaDoor
open Go.RowKit

def lists (ns : List ByteArray) : List (List UInt8) := ns.map (·.data.toList)
theorem lists_append (a b : List ByteArray) : lists (a ++ b) = lists a ++ lists b := List.map_append

set_option maxHeartbeats 1000000 in
theorem join1 (s : ByteArray) (w : World) : Calls Tryd.prog 22 #[.string s] w fun e w' => e = .returned (.bool (!nm s.data.toList)) ∧ Below w.heap.size w w' := by
  go_enter Tryd.func22, Tryd.ntmps22
  go_wp2_with fail
  refine (name_any s w).mono ?_
  rintro e w1 ⟨rfl, hb⟩
  have HB := Lib.hid hb
  clear hb
  go_wp2
  go_ret
  exact ⟨rfl, HB.out⟩

set_option maxHeartbeats 2000000 in
theorem indexFunc_join (a : Option Addr) (cap : Nat) (ns : List ByteArray) (h6 : ns.length ≤ 6) (w : World) (hr : Row w a cap ns) :
    Calls Tryd.prog 36 #[.slice a ns.length cap, .func (.func 22) #[] #[]] w fun e w' => ∃ i : Int, e = .returned (.int .i64 i) ∧ decide (0 ≤ i) = !((lists ns).all nm) ∧ Below w.heap.size w w' := by
  obtain ⟨N, hN⟩ : ∃ N, ns.length = N := ⟨_, rfl⟩
  have HR := Lib.hid hr
  have HN := Lib.hid hN
  rw [hN] at h6
  rw [hN]
  clear hr hN
  go_enter Tryd.func36, Tryd.ntmps36
  go_wp2
  go_loopg [8] N (fun g i wx => ∃ k : Nat, i = .int .i64 (k : Int) ∧ k + g = N ∧ Hid (Below w.heap.size w wx) ∧ Hid ((lists (ns.take k)).all nm = true))
  case atStart => exact ⟨0, rfl, by omega, Below.refl _ _, by simp [Hid, lists]⟩
  case round =>
    obtain ⟨k, rfl, hk, HB, HA⟩ := hrel
    by_cases hlt : k < N
    · have hlt' : (k : Int) < (N : Int) := by omega
      have hw : IntKind.i64.wrap ((k : Int) + 1) = (k : Int) + 1 := IntWalk.i64_in _ (by omega)
      obtain ⟨x, hx⟩ : ∃ x, ns[k]? = some x := ⟨ns[k]'(by have := HN.out; omega), List.getElem?_eq_getElem _⟩
      have htk : ns.take (k + 1) = ns.take k ++ [x] := by rw [List.take_add_one, hx]; rfl
      have hdr : ns = ns.take k ++ x :: ns.drop (k + 1) := by
        have h1 : k < ns.length := by have := HN.out; omega
        rw [List.getElem?_eq_getElem h1] at hx
        rw [← Option.some.inj hx, List.getElem_cons_drop, List.take_append_drop]
      obtain ⟨b, off, rfl, hb, hc⟩ : ∃ b off, a = some ⟨b, off, none⟩ ∧ b < w.heap.size ∧ ∀ (j : Nat) x, ns[j]? = some x → w.cell? ⟨b, off + j, none⟩ = some (.string x) := by
        rcases HR.out.2 with h | h
        · rw [h] at hx; cases hx
        · exact h
      have hcell : wr.cell? ⟨b, off + k, none⟩ = some (.string x) := (HB.out.cell (p := ⟨b, off + k, none⟩) hb).trans (hc k x hx)
      have HT := Lib.hid htk
      have HD := Lib.hid hdr
      have HX := Lib.hid hx
      clear htk hdr hx hc
      cases hn : nm x.data.toList with
      | true =>
        go_wp2_with fail
        refine (join1 x _).mono ?_
        rintro e w1 ⟨rfl, hb1⟩
        rw [hn]
        have HB1 := Lib.hid hb1
        clear hb1
        go_wp2
        go_roundg (gk - 1)
        case measure => omega
        case rel => exact ⟨k + 1, by simp, by omega, HB.out.trans (HB1.out.mono HB.out.size), by show _ = true; rw [HT.out, lists_append, List.all_append, HA.out]; simp [lists, hn]⟩
      | false =>
        go_wp2_with fail
        refine (join1 x _).mono ?_
        rintro e w1 ⟨rfl, hb1⟩
        rw [hn]
        have HB1 := Lib.hid hb1
        clear hb1
        go_wp2
        go_ret
        refine ⟨_, rfl, ?_, HB.out.trans (HB1.out.mono HB.out.size)⟩
        have h0 : (lists ns).all nm = false := by
          rw [HD.out]
          simp [lists, hn]
        rw [h0]
        simp
    · have hkN : k = N := by omega
      have hlt' : ¬ (k : Int) < (N : Int) := by omega
      go_wp2
      go_ret
      refine ⟨_, rfl, ?_, HB.out⟩
      have := HA.out
      rw [hkN, ← HN.out, List.take_length] at this
      rw [this]
      rfl

set_option maxHeartbeats 1000000 in
theorem containsFunc_join (a : Option Addr) (cap : Nat) (ns : List ByteArray) (h6 : ns.length ≤ 6) (w : World) (hr : Row w a cap ns) :
    Calls Tryd.prog 23 #[.slice a ns.length cap, .func (.func 22) #[] #[]] w fun e w' => e = .returned (.bool (!((lists ns).all nm))) ∧ Below w.heap.size w w' := by
  have H := Lib.hid (indexFunc_join a cap ns h6 w hr)
  clear h6 hr
  go_enter Tryd.func23, Tryd.ntmps23
  go_wp2_with fail
  refine H.out.mono ?_
  rintro e w1 ⟨i, rfl, hi, hb⟩
  have HI := Lib.hid hi
  have HB := Lib.hid hb
  clear hi hb
  go_wp2
  go_ret
  exact ⟨by rw [← HI.out] <;> rfl, HB.out⟩

theorem pth_join : ∀ ns : List (List UInt8), 47 :: Lib.join ns [47] = pth ns
  | [] => rfl
  | x :: ns => by
    rw [Lib.join_cons, pth, if_neg (by simp), jn_cons]
    rfl

set_option maxHeartbeats 2000000 in
theorem join_long (a : Option Addr) (cap len : Nat) (h6 : 6 < len) (hz : len ≤ maxLen) (w : World) :
    Calls Tryd.prog 11 #[.slice a len cap] w fun e w' => e = .returned (.tuple #[.string ⟨#[]⟩, .iface 42 (.int .i64 2)]) ∧ w = w' := by
  unfold maxLen at hz
  have h6' : (6 : Int) < (len : Int) := by omega
  go_enter Tryd.func11, Tryd.ntmps11
  go_wp2
  go_ret2
  exact ⟨rfl, rfl⟩

set_option maxHeartbeats 2000000 in
theorem join_bad (a : Option Addr) (cap : Nat) (ns : List ByteArray) (h6 : ns.length ≤ 6) (w : World) (hr : Row w a cap ns) (hn : (lists ns).all nm = false) :
    Calls Tryd.prog 11 #[.slice a ns.length cap] w fun e w' => e = .returned (.tuple #[.string ⟨#[]⟩, .iface 42 (.int .i64 2)]) ∧ Below w.heap.size w w' := by
  have h6' : ¬ (6 : Int) < (ns.length : Int) := by omega
  have H := Lib.hid (containsFunc_join a cap ns h6 w hr)
  rw [hn] at H
  clear hr
  go_enter Tryd.func11, Tryd.ntmps11
  go_wp2_with fail
  refine H.out.mono ?_
  rintro e w1 ⟨rfl, hb⟩
  have HB := Lib.hid hb
  clear hb
  go_wp2
  go_ret2
  exact ⟨rfl, HB.out⟩

set_option maxHeartbeats 2000000 in
theorem join_good (a : Option Addr) (cap : Nat) (ns : List ByteArray) (w : World) (hr : Row w a cap ns) (hg : good (lists ns)) :
    Calls Tryd.prog 11 #[.slice a ns.length cap] w fun e w' => ∃ p : ByteArray, e = .returned (.tuple #[.string p, .nilIface]) ∧ p.data.toList = pth (lists ns) ∧ Below w.heap.size w w' := by
  have h6 : ns.length ≤ 6 := by simpa [lists] using hg.1
  have h6' : ¬ (6 : Int) < (ns.length : Int) := by omega
  have hn : (lists ns).all nm = true := by rw [List.all_eq_true]; exact hg.2
  have H := Lib.hid (containsFunc_join a cap ns h6 w hr)
  rw [hn] at H
  have hpl := isP_len (isP_pth hg)
  have hjl : (Lib.join (lists ns) [47]).length ≤ 53 := by
    rw [← pth_join] at hpl
    simp at hpl
    omega
  have hsj : ∀ w1, Below w.heap.size w w1 → Calls Tryd.prog 24 #[.slice a ns.length cap, .string ⟨#[47]⟩] w1 fun e w' => e = .returned (.string ⟨(Lib.join (lists ns) [47]).toArray⟩) ∧ Below w1.heap.size w1 w' := fun w1 hb => by
    have hr1 := hr.below hb
    obtain ⟨hcap, h | ⟨b, off, rfl, hlt, hc⟩⟩ := hr1
    · subst h
      exact (Tryd.strings_Join_none a cap ⟨#[47]⟩ w1).mono fun e w' ⟨he, hw⟩ => ⟨he, hw ▸ Below.refl _ _⟩
    · exact Tryd.strings_Join b off cap ns ⟨#[47]⟩ w1 hc hlt (by omega) hcap (Nat.le_trans hjl (by omega))
  have HS := Lib.hid hsj
  have hsum : ¬ 9223372036854775807 < 1 + (Lib.join (lists ns) [47]).length := by omega
  have hdat : ((⟨#[47]⟩ : ByteArray) ++ (⟨(Lib.join (lists ns) [47]).toArray⟩ : ByteArray)).data.toList = pth (lists ns) := by
    rw [bs_append, ← pth_join]
    rfl
  have HDA := Lib.hid hdat
  clear hr hg hn hpl hsj hdat h6
  go_enter Tryd.func11, Tryd.ntmps11
  go_wp2_with fail
  refine H.out.mono ?_
  rintro e w1 ⟨rfl, hb⟩
  have HB := Lib.hid hb
  clear hb
  go_wp2_with fail
  refine (HS.out w1 HB.out).mono ?_
  rintro e w2 ⟨rfl, hb⟩
  have HB2 := Lib.hid (HB.out.trans (hb.mono HB.out.size))
  clear hb
  go_wp2
  go_ret2
  exact ⟨_, rfl, HDA.out, HB2.out⟩
end Go.Proofs.YtpbkjijdilkkcaaDoor
