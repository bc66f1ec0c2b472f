/-
  The law FailUnlike, walked: for all bytes a and b it returns true and changes nothing that was there. Condition: errorType holds error's type.
-/
import Derived.Test.YtjfjfgahfciflaaDoorText
namespace Go.Proofs.YtjfjfgahfciflaaDoor
open Go.RowKit Go.Extern.Stop Go.Stop Go.Extern

set_option maxHeartbeats 1000000 in
theorem awake_any (w : World) (hg : EtLaid w) : Calls Tryd.prog 7 #[] w fun e w' => e = .returned (.bool true) ∧ Below w.heap.size w w' := by
  have HC := Lib.hid (code_chain [(⟨#[111, 112, 101, 110]⟩, ⟨#[47, 97]⟩)] 3 _ (w.alloc (.cells #[.string ⟨#[111, 112, 101, 110]⟩, .string ⟨#[47, 97]⟩, .iface 29 (.int .i64 3)] 43)) (chain_at (l := []) rfl _ _) (hg.below hg.lt ((Below.refl _ _).alloc (Nat.le_refl _) _)))
  clear hg
  go_enter Tryd.func7, Tryd.ntmps7
  go_wp2_with fail
  refine (at_iface _ _ _ _ _).mono ?_
  rintro e w1 ⟨rfl, rfl⟩
  go_wp2_with fail
  refine HC.out.mono ?_
  rintro e w1 ⟨rfl, hb⟩
  have HB := Lib.hid hb
  clear hb
  go_wp2
  go_ret
  exact ⟨rfl, ((Below.refl _ _).alloc (Nat.le_refl _) _).trans (HB.out.mono (by simp))⟩

theorem unlike_texts (x y : Int) (hx0 : 0 ≤ x) (hx1 : x < 100) (hy0 : 0 ≤ y) (hy1 : y < 100) : ((errText x).toList == (errText y).toList) = (x == y) := by
  by_cases h : x = y
  · subst h; simp
  · have h2 : ¬ (errText x).toList = (errText y).toList := fun e => h (errText_inj hx0 hx1 hy0 hy1 (by
      rw [ByteArray.toList_eq, ByteArray.toList_eq] at e
      exact WideShapes.bytes_inj e))
    rw [beq_eq_false_iff_ne.2 h2, beq_eq_false_iff_ne.2 h]

set_option maxHeartbeats 1000000 in
theorem unlike_any (a b : Int) (w : World) (hg : EtLaid w) (ha0 : 0 ≤ a) (ha1 : a ≤ 255) (hb0 : 0 ≤ b) (hb1 : b ≤ 255) :
    Calls Tryd.prog 6 #[.int .u8 a, .int .u8 b] w fun e w' => e = .returned (.bool true) ∧ Below w.heap.size w w' := by
  have HL := Lib.hid hg
  have hq := unlike_texts (a % 100) (b % 100) (by omega) (by omega) (by omega) (by omega)
  clear hg
  go_enter Tryd.func6, Tryd.ntmps6
  go_wp2_with fail
  refine (awake_any _ HL.out).mono ?_
  rintro e w1 ⟨rfl, hb⟩
  have HB1 := Lib.hid hb
  clear hb
  go_wp2_with fail
  refine (errno_any _ _).mono ?_
  rintro e w2 ⟨rfl, hb⟩
  have HB2 := Lib.hid (HB1.out.trans (hb.mono HB1.out.size))
  clear hb HB1
  go_wp2_with fail
  refine (errno_any _ _).mono ?_
  rintro e w3 ⟨rfl, hb⟩
  have HB3 := Lib.hid (HB2.out.trans (hb.mono HB2.out.size))
  clear hb HB2
  go_wp2_with fail
  refine (fIs_chain [] (a % 100) (b % 100) _ _ rfl).mono ?_
  rintro e w4 ⟨rfl, rfl⟩
  go_wp2_with fail
  refine (code_chain [] (a % 100) _ _ rfl (HL.out.below HL.out.lt HB3.out)).mono ?_
  rintro e w4 ⟨rfl, hb⟩
  have HB4 := Lib.hid (HB3.out.trans (hb.mono HB3.out.size))
  clear hb HB3
  go_wp2
  go_ret
  exact ⟨rfl, HB4.out⟩
end Go.Proofs.YtjfjfgahfciflaaDoor
