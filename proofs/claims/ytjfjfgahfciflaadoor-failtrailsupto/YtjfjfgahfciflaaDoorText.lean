/-
  Contracts of Errno's text (package api), which is: error, a blank and two digits below 100, error alone else; that unlike numbers below 100 have unlike texts. No condition.
-/
import Derived.Test.YtjfjfgahfciflaaDoorFail
import Derived.Laws.BytesArg
namespace Go.Proofs.YtjfjfgahfciflaaDoor
open Go.RowKit Go.Extern.Stop Go.Stop Go.Extern

theorem Tryd.conv2 (x y : Int) (w : World) : (convert 46 9 (.slice (some ⟨w.heap.size, 0, none⟩) 2 2)).run Tryd.prog (w.alloc (.cells #[.int .u8 x, .int .u8 y] 5)) = .ok (.string (strOfNums [x, y])) (w.alloc (.cells #[.int .u8 x, .int .u8 y] 5)) := by
  refine run_convert_bytes_arg _ 46 5 Tryd.underlying46 Tryd.underlying5 w.heap.size 0 2 2 [x, y] rfl ?_ 9 Tryd.underlying9
  intro i hi
  match i, hi with
  | 0, _ => simp
  | 1, _ => simp

/-- A number's text. -/
def errText (n : Int) : ByteArray := if 0 ≤ n ∧ n < 100 then ⟨#[101, 114, 114, 111, 114, 32]⟩ ++ strOfNums [48 + n / 10, 48 + n % 10] else ⟨#[101, 114, 114, 111, 114]⟩
theorem errText_in {n : Int} (h0 : 0 ≤ n) (h1 : n < 100) : errText n = ⟨#[101, 114, 114, 111, 114, 32]⟩ ++ strOfNums [48 + n / 10, 48 + n % 10] := if_pos ⟨h0, h1⟩
theorem errText_out {n : Int} (h : ¬ (0 ≤ n ∧ n < 100)) : errText n = ⟨#[101, 114, 114, 111, 114]⟩ := if_neg h
theorem errText_size (n : Int) : (errText n).size ≤ 8 := by
  unfold errText
  split
  · simp [strOfNums_size, ByteArray.size_append]; decide
  · decide
theorem errText_toList {n : Int} (h0 : 0 ≤ n) (h1 : n < 100) : (errText n).data.toList = [101, 114, 114, 111, 114, 32, UInt8.ofNat (48 + n / 10).toNat, UInt8.ofNat (48 + n % 10).toNat] := by
  rw [errText_in h0 h1]; simp [ByteArray.data_append, strOfNums]
theorem errText_inj {x y : Int} (hx0 : 0 ≤ x) (hx1 : x < 100) (hy0 : 0 ≤ y) (hy1 : y < 100) (h : errText x = errText y) : x = y := by
  have h' := congrArg (fun s : ByteArray => s.data.toList) h
  simp only [errText_toList hx0 hx1, errText_toList hy0 hy1, List.cons.injEq, and_true, true_and] at h'
  have e1 := congrArg UInt8.toNat h'.1
  have e2 := congrArg UInt8.toNat h'.2
  simp only [UInt8.toNat_ofNat'] at e1 e2
  omega

theorem Tryd.noteSize (x y : Int) : (strOfNums [x, y]).size = 2 := by simp [strOfNums_size]

set_option maxRecDepth 100000 in
set_option maxHeartbeats 1000000 in
theorem errno_any (n : Int) (w : World) :
    Calls Tryd.prog 14 #[.int .i64 n] w fun e w' => e = .returned (.string (errText n)) ∧ Below w.heap.size w w' := by
  have c2 := Tryd.conv2
  have c3 := Tryd.noteSize
  by_cases h : 0 ≤ n ∧ n < 100
  · have HE := Lib.hid (errText_in h.1 h.2)
    obtain ⟨h0, h1⟩ := h
    go_enter Tryd.func14, Tryd.ntmps14
    go_wp2
    go_ret
    exact ⟨by rw [HE.out]; rfl, (Below.refl _ _).alloc (Nat.le_refl _) _⟩
  · have HE := Lib.hid (errText_out h)
    by_cases h0 : 0 ≤ n
    · have h1 : ¬ n < 100 := fun h' => h ⟨h0, h'⟩
      clear h
      go_enter Tryd.func14, Tryd.ntmps14
      go_wp2
      go_ret
      exact ⟨by rw [HE.out]; rfl, Below.refl _ _⟩
    · clear h
      go_enter Tryd.func14, Tryd.ntmps14
      go_wp2
      go_ret
      exact ⟨by rw [HE.out]; rfl, Below.refl _ _⟩
end Go.Proofs.YtjfjfgahfciflaaDoor
