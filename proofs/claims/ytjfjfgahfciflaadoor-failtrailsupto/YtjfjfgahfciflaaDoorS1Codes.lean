/-
  The law FailCodes, walked: for every number, list of texts and other number it returns true and changes nothing that was there. Conditions: the list lies in memory; errorType holds error's type.
-/
import Derived.Test.YtjfjfgahfciflaaDoorS1Wrapped
import Derived.Test.YtjfjfgahfciflaaDoorS1Unlike
namespace Go.Proofs.YtjfjfgahfciflaaDoor
open Go.RowKit Go.Extern.Stop Go.Stop Go.Extern

theorem Strs.of_cells {w : World} {a : Addr} {len : Nat} {ss : List ByteArray} (h : ∀ i, i < ss.length → w.cell? (a.add i) = some (.string (ss.getD i ByteArray.empty))) (hl : len ≤ ss.length) :
    Strs w (some a) len (fun i => ss.getD i ByteArray.empty) := fun i hi => by
  obtain ⟨b, off, spot⟩ := a
  have hspot : spot = none := by simpa [Addr.add] using World.cell?_spot (h 0 (by omega))
  subst hspot
  have hc := h i (by omega)
  rw [Go.WideShapes.add_plain] at hc
  exact ⟨b, off, rfl, lt_of_cell hc, hc⟩

set_option maxHeartbeats 1000000 in
theorem codes_long (n m : Int) (a : Option Addr) (len cap : Nat) (w : World) (hg : EtLaid w) (hlen : 40 < len) (hmax : len ≤ maxLen) :
    Calls Tryd.prog 3 #[.int .i64 n, .slice a len cap, .int .i64 m] w fun e w' => e = .returned (.bool true) ∧ Below w.heap.size w w' := by
  unfold maxLen at hmax
  have HL := Lib.hid hg
  clear hg
  have hl2 : (40 : Int) < (len : Int) := by omega
  go_enter Tryd.func3, Tryd.ntmps3
  go_wp2_with fail
  refine (awake_any _ HL.out).mono ?_
  rintro e w1 ⟨rfl, hb⟩
  have HB1 := Lib.hid hb
  clear hb
  go_wp2_with fail
  refine (awake_any _ (HL.out.below HL.out.lt HB1.out)).mono ?_
  rintro e w2 ⟨rfl, hb⟩
  have HB2 := Lib.hid (HB1.out.trans (hb.mono HB1.out.size))
  clear hb HB1
  go_wp2
  go_ret
  exact ⟨rfl, HB2.out⟩

set_option maxHeartbeats 1000000 in
theorem codes_short (n m : Int) (a : Option Addr) (len cap : Nat) (S : Nat → ByteArray) (w : World) (hg : EtLaid w) (hs : Strs w a len S) (hlen : len ≤ 40) :
    Calls Tryd.prog 3 #[.int .i64 n, .slice a len cap, .int .i64 m] w fun e w' => e = .returned (.bool true) ∧ Below w.heap.size w w' := by
  have HL := Lib.hid hg
  have HS := Lib.hid hs
  clear hg hs
  have hl2 : ¬ (40 : Int) < (len : Int) := by omega
  go_enter Tryd.func3, Tryd.ntmps3
  go_wp2_with fail
  refine (awake_any _ HL.out).mono ?_
  rintro e w1 ⟨rfl, hb⟩
  have HB1 := Lib.hid hb
  clear hb
  go_wp2_with fail
  refine (wrapped_any n a len cap S w1 (by omega) (HS.out.below HB1.out)).mono ?_
  rintro e w2 ⟨u, y, rfl, hc, hb⟩
  have HC := Lib.hid hc
  have HB2 := Lib.hid (HB1.out.trans (hb.mono HB1.out.size))
  clear hb HB1 hc
  go_wp2_with fail
  refine (code_chain _ n _ _ HC.out (HL.out.below HL.out.lt HB2.out)).mono ?_
  rintro e w3 ⟨rfl, hb⟩
  have HB3 := Lib.hid (HB2.out.trans (hb.mono HB2.out.size))
  have HC3 := Lib.hid (HC.out.below hb)
  clear hb HB2 HC
  go_wp2_with fail
  refine (fIs_chain _ n n _ _ HC3.out).mono ?_
  rintro e w4 ⟨rfl, rfl⟩
  go_wp2_with fail
  refine (fIs_chain _ n m _ _ HC3.out).mono ?_
  rintro e w4 ⟨rfl, rfl⟩
  go_wp2_with fail
  refine (code_nil _).mono ?_
  rintro e w4 ⟨rfl, rfl⟩
  go_wp2_with fail
  refine (at_nil _ _ _).mono ?_
  rintro e w4 ⟨rfl, rfl⟩
  go_wp2_with fail
  refine (fIs_nil _ _).mono ?_
  rintro e w4 ⟨rfl, rfl⟩
  go_wp2
  go_ret
  exact ⟨rfl, HB3.out⟩
end Go.Proofs.YtjfjfgahfciflaaDoor
