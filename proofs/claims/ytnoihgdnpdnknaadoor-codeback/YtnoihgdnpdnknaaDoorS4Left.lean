/-
  The law CodeLeft, walked: for every number and every two texts it returns true and changes nothing that was there. Condition: the texts' sizes fit.
-/
import Derived.Test.YtnoihgdnpdnknaaDoorS4Awake
import Derived.Test.YtnoihgdnpdnknaaDoorS4Reader
namespace Go.Proofs.YtnoihgdnpdnknaaDoor
open Go.RowKit

theorem codeNil (w : World) : Calls Tryd.prog 10 #[.nilIface] w fun e w' => e = .returned (.int .i64 0) ∧ w = w' := by
  go_enter Tryd.func10, Tryd.ntmps10
  go_wp2
  go_ret
  exact ⟨rfl, rfl⟩

set_option maxRecDepth 10000 in
set_option maxHeartbeats 2000000 in
theorem left_long (n : Int) (s more : ByteArray) (hz : s.size ≤ maxLen) (hm : more.size ≤ maxLen) (h : 2000 < s.size ∨ 2000 < more.size) (w : World) :
    Calls Tryd.prog 4 #[.int .i64 n, .string s, .string more] w fun e w' => e = .returned (.bool true) ∧ Below w.heap.size w w' := by
  unfold maxLen at hz hm
  by_cases h1 : 2000 < s.size
  · have h2 : (2000 : Int) < (s.size : Int) := by omega
    clear h
    go_enter Tryd.func4, Tryd.ntmps4
    go_wp2_with fail
    refine (awake_any _).mono ?_
    rintro e w1 ⟨rfl, hb⟩
    have HB := Lib.hid hb
    clear hb
    go_wp2_with fail
    refine (awake_any _).mono ?_
    rintro e w2 ⟨rfl, hb⟩
    have HB2 := Lib.hid (HB.out.trans (hb.mono HB.out.size))
    clear hb
    go_wp2
    go_ret
    exact ⟨rfl, HB2.out⟩
  · have h2 : ¬ (2000 : Int) < (s.size : Int) := by omega
    have h3 : (2000 : Int) < (more.size : Int) := by omega
    clear h
    go_enter Tryd.func4, Tryd.ntmps4
    go_wp2_with fail
    refine (awake_any _).mono ?_
    rintro e w1 ⟨rfl, hb⟩
    have HB := Lib.hid hb
    clear hb
    go_wp2_with fail
    refine (awake_any _).mono ?_
    rintro e w2 ⟨rfl, hb⟩
    have HB2 := Lib.hid (HB.out.trans (hb.mono HB.out.size))
    clear hb
    go_wp2
    go_ret
    exact ⟨rfl, HB2.out⟩

set_option maxRecDepth 10000 in
set_option maxHeartbeats 4000000 in
theorem left_short (n : Int) (s more : ByteArray) (hz : s.size ≤ 2000) (hm : more.size ≤ 2000) (w : World) :
    Calls Tryd.prog 4 #[.int .i64 n, .string s, .string more] w fun e w' => e = .returned (.bool true) ∧ Below w.heap.size w w' := by
  obtain ⟨x, hx, hx1⟩ := low62 n
  have h1 : ¬ (2000 : Int) < (s.size : Int) := by omega
  have h2 : ¬ (2000 : Int) < (more.size : Int) := by omega
  have h9 := numB_size_nine (n := x) (by omega)
  have h9s := dg_nine (n := s.size) (by omega)
  have hsz := strB_size s
  have hB : (strB s).size ≤ 2009 := by omega
  have c1 : ¬ 9223372036854775807 < (numB x).size + (strB s).size := by omega
  have c2 : ¬ 9223372036854775807 < (numB x).size + (strB s).size + more.size := by omega
  obtain ⟨rest, hrest⟩ : ∃ rest, dg s.size ++ (s.data.toList ++ more.data.toList) = rest := ⟨_, rfl⟩
  have HL := Lib.hid (show (numB x ++ strB s ++ more).data.toList = dg x ++ rest by
    rw [← hrest, ByteArray.data_append, Array.toList_append, ByteArray.data_append, Array.toList_append, numB_list, strB_list, List.append_assoc, List.append_assoc])
  have HLZ := Lib.hid (show (numB x ++ strB s ++ more).size ≤ 4611686018427387904 by
    rw [ByteArray.size_append, ByteArray.size_append]
    omega)
  have HR : Hid ((bs rest).data.toList = dg s.size ++ (s.data.toList ++ more.data.toList)) := by rw [bs_list]; exact hrest.symm
  have hrs : (bs rest).size = (strB s).size + more.size := by
    rw [bs_size, ← hrest, List.length_append, List.length_append, hsz, Lib.size_eq s, Lib.size_eq more, Nat.add_assoc]
  have HRZ := Lib.hid (show (bs rest).size ≤ 4611686018427387904 by rw [hrs]; omega)
  have hri : ((bs rest).size : Int) = ((strB s).size : Int) + (more.size : Int) := by omega
  have hss : (s.toList == s.toList) = true := by simp
  have HX := Lib.hid hx1
  have HSZ := Lib.hid hz
  clear hx1 hrest hrs h9s hsz hz
  go_enter Tryd.func4, Tryd.ntmps4
  go_wp2_with fail
  refine (awake_any _).mono ?_
  rintro e w1 ⟨rfl, hb⟩
  have HB1 := Lib.hid hb
  clear hb
  go_wp2_with fail
  refine (num_any x (by have := HX.out; omega) _).mono ?_
  rintro e w2 ⟨rfl, hb⟩
  have HB2 := Lib.hid (HB1.out.trans (hb.mono HB1.out.size))
  clear hb
  go_wp2_with fail
  refine (str_any s (by have := HSZ.out; omega) _).mono ?_
  rintro e w3 ⟨rfl, hb⟩
  have HB3 := Lib.hid (HB2.out.trans (hb.mono HB2.out.size))
  clear hb hx
  go_wp2_with fail
  refine (new_any _ _).mono ?_
  rintro e w4 ⟨rfl, hr, hb⟩
  have HB4 := Lib.hid (HB3.out.trans (hb.mono HB3.out.size))
  have HP := Lib.hid hr
  have HW := Lib.hid HB3.out.size
  clear hb hr
  generalize w3.heap.size = p at *
  go_wp2_with fail
  refine (rNum_good x _ _ rest HL.out HLZ.out (by have := HX.out; omega) (by have := HX.out; omega) p _ HP.out).mono ?_
  rintro e w5 ⟨rfl, hb⟩
  have HP2 := Lib.hid (HP.out.next hb)
  have HB5 := Lib.hid (below_next HB4.out HW.out HB4.out.size hb)
  clear hb
  go_wp2_with fail
  refine (left_any _ p _ HP2.out).mono ?_
  rintro e w6 ⟨rfl, rfl⟩
  go_wp2_with fail
  refine (rStr_good s _ _ more.data.toList HR.out HRZ.out (by have := HSZ.out; omega) p _ HP2.out).mono ?_
  rintro e w7 ⟨rfl, hb⟩
  have HP3 : Hid (Rd w7 p more) := by have := HP2.out.next hb; rw [bs_self] at this; exact this
  have HB7 := Lib.hid (below_next HB5.out HW.out HB5.out.size hb)
  clear hb
  go_wp2_with fail
  refine (codeNil _).mono ?_
  rintro e w8 ⟨rfl, rfl⟩
  go_wp2_with fail
  refine (codeNil _).mono ?_
  rintro e w8 ⟨rfl, rfl⟩
  go_wp2_with fail
  refine (str_any s (by have := HSZ.out; omega) _).mono ?_
  rintro e w9 ⟨rfl, hb⟩
  have HB9 := Lib.hid (HB7.out.trans (hb.mono HB7.out.size))
  have HP9 := Lib.hid (HP3.out.below hb)
  clear hb
  go_wp2_with fail
  refine (left_any _ p _ HP9.out).mono ?_
  rintro e w10 ⟨rfl, rfl⟩
  go_wp2
  go_ret
  exact ⟨rfl, HB9.out⟩
theorem left_all (n : Int) (s more : ByteArray) (hz : s.size ≤ maxLen) (hm : more.size ≤ maxLen) (w : World) :
    Calls Tryd.prog 4 #[.int .i64 n, .string s, .string more] w fun e w' => e = .returned (.bool true) ∧ Below w.heap.size w w' := by
  by_cases h : 2000 < s.size ∨ 2000 < more.size
  · exact left_long n s more hz hm h w
  · exact left_short n s more (by omega) (by omega) w
end Go.Proofs.YtnoihgdnpdnknaaDoor
