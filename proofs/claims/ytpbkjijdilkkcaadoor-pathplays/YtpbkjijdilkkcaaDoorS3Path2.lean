/-
  Contracts of path.Parent at a path below the root, and of path.Split. Conditions: a text's size fits an int.
-/
import Derived.Test.YtpbkjijdilkkcaaDoorS3Path
namespace Go.Proofs.YtpbkjijdilkkcaaDoor
open Go.RowKit

theorem isP_len {p : List UInt8} (h : isP p) : p.length ≤ 54 := by
  have hj : ∀ ns : List (List UInt8), (∀ x ∈ ns, nm x = true) → (jn ns).length ≤ 9 * ns.length := by
    intro ns
    induction ns with
    | nil => intro _; simp [jn]
    | cons x ns ih =>
      intro hn
      have h1 := ih (fun y hy => hn y (by simp [hy]))
      have h2 := nm_len (hn x (by simp))
      rw [jn_cons]
      simp
      omega
  rw [← h.eq, pth]
  split
  · simp
  · have := hj _ h.2.2
    have := h.2.1
    omega

set_option maxHeartbeats 2000000 in
theorem parent_good (p : ByteArray) (ms : List (List UInt8)) (x : List UInt8) (hP : isP p.data.toList) (hx : nm x = true) (he : p.data.toList = jn ms ++ 47 :: x) (hne : p.data.toList ≠ [47]) (w : World) :
    Calls Tryd.prog 12 #[.string p] w fun e w' => ∃ d n, e = .returned (.tuple #[.string d, .string n, .nilIface]) ∧ d.data.toList = pth ms ∧ n.data.toList = x ∧ Below w.heap.size w w' := by
  have hlen := isP_len hP
  rw [← Lib.size_eq] at hlen
  have d1 : ¬ dp p.data.toList < 0 := fun h => dp_lt.1 h hP
  obtain ⟨m1, hm1⟩ : ∃ m, dp p.data.toList = m := ⟨_, rfl⟩
  rw [hm1] at d1
  have hs' : (p.toList == [47]) = false := by rw [eq_slash]; simpa using hne
  obtain ⟨k, hk⟩ : ∃ k, (jn ms).length = k := ⟨_, rfl⟩
  have hsz : p.size = k + 1 + x.length := by rw [Lib.size_eq, he]; simp [hk]; omega
  have HX : (p.extract (k + 1) p.size).data.toList = x := by
    rw [Lib.extract_data, he, show jn ms ++ 47 :: x = (jn ms ++ [47]) ++ x by simp, List.drop_left' (by simp [hk]), List.take_of_length_le (by omega)]
  have HDd : ∀ m : Nat, ((m = k ∧ 1 ≤ k) ∨ (m = 1 ∧ k = 0)) → (p.extract 0 m).data.toList = pth ms := by
    rintro m (⟨rfl, h1⟩ | ⟨rfl, h0⟩)
    · have hn : ms ≠ [] := fun e => by rw [e] at hk; simp [jn] at hk; omega
      rw [Lib.extract_data, he, List.drop_zero, Nat.sub_zero, List.take_left' hk, pth, if_neg hn]
    · have hn : ms = [] := by
        cases ms with
        | nil => rfl
        | cons y ms => rw [jn_cons, h0] at hk; simp at hk
      subst hn
      rw [Lib.extract_data, he]
      simp [jn, pth]
  have H1 := Lib.hid HX
  have H2 := Lib.hid HDd
  have HM1 := Lib.hid hm1
  have HZ := Lib.hid (show p.size ≤ 9223372036854775807 by omega)
  have HL := Lib.hid (LastIndex47 p (jn ms) x he (nm_noslash hx) HZ.out)
  rw [hk] at HL
  have c1 : (k : Int) + 1 ≤ p.size := by omega
  have c2 : (k : Int) ≤ p.size := by omega
  have c3 : IntKind.i64.wrap ((k : Int) + 1) = (k : Int) + 1 := IntWalk.i64_in _ (by omega)
  have c4 : ((k : Int) + 1).toNat = k + 1 := by omega
  have c5 : (0 : Int) ≤ (k : Int) + 1 := by omega
  clear HX HDd hm1 he hne hP hx hsz hlen
  go_enter Tryd.func12, Tryd.ntmps12
  go_wp2_with fail
  refine (deep_any p HZ.out _).mono ?_
  rintro e w1 ⟨rfl, hb⟩
  rw [HM1.out]
  have HB := Lib.hid hb
  clear hb
  go_wp2_with fail
  refine (HL.out w1).mono ?_
  rintro e w2 ⟨rfl, rfl⟩
  go_wp2
  go_region
  go_wp2
  · go_ret3
    exact ⟨_, _, rfl, H2.out 1 (.inr ⟨rfl, by omega⟩), H1.out, HB.out.drew⟩
  · go_ret3
    exact ⟨_, _, rfl, H2.out k (.inl ⟨rfl, by omega⟩), H1.out, HB.out.drew⟩

/-- a slice of strings in memory -/
def Row (w : World) (a : Option Addr) (cap : Nat) (ns : List ByteArray) : Prop :=
  ns.length ≤ cap ∧ (ns = [] ∨ ∃ b off, a = some ⟨b, off, none⟩ ∧ b < w.heap.size ∧ ∀ (j : Nat) x, ns[j]? = some x → w.cell? ⟨b, off + j, none⟩ = some (.string x))
theorem Row.below {w w' : World} {a : Option Addr} {cap : Nat} {ns : List ByteArray} (h : Row w a cap ns) (hb : Below w.heap.size w w') : Row w' a cap ns := by
  obtain ⟨h1, h2⟩ := h
  refine ⟨h1, h2.imp_right ?_⟩
  rintro ⟨b, off, rfl, hlt, hc⟩
  exact ⟨b, off, rfl, Nat.lt_of_lt_of_le hlt hb.size, fun j x hx => (hb.cell (p := ⟨b, off + j, none⟩) hlt).trans (hc j x hx)⟩
theorem row_of_owns {w : World} {B : Nat} {v : Value} {ns : List ByteArray} (h : w.ownsRow B 9 1 v ns.length (ns.map Value.string)) : ∃ a cap, v = .slice a ns.length cap ∧ Row w a cap ns := by
  obtain ⟨_, ⟨rfl, h0⟩ | ⟨g, cap, cur, rfl, hg, hbk, hc, _, _, ht⟩⟩ := h
  · exact ⟨none, 0, by rw [h0], by omega, .inl (List.length_eq_zero_iff.1 h0)⟩
  · refine ⟨_, cap, rfl, hc, .inr ⟨g, 0, rfl, (Array.getElem?_eq_some_iff.1 hbk).1, fun j x hx => ?_⟩⟩
    have h1 : (ns.map Value.string)[j]? = some (.string x) := by rw [List.getElem?_map, hx]; rfl
    rw [← ht, Nat.mul_one] at h1
    have hj : j < ns.length := (List.getElem?_eq_some_iff.1 hx).1
    rw [List.getElem?_take_of_lt hj, Array.getElem?_toList] at h1
    rw [Lib.cell_of_heap hbk]
    simpa using h1

set_option maxHeartbeats 2000000 in
theorem split_good (p : ByteArray) (hP : isP p.data.toList) (w : World) :
    Calls Tryd.prog 9 #[.string p] w fun e w' => ∃ a cap, e = .returned (.tuple #[.slice a (prts p).length cap, .nilIface]) ∧ Row w' a cap (prts p) ∧ Below w.heap.size w w' := by
  have hlen := isP_len hP
  rw [← Lib.size_eq] at hlen
  have d1 : ¬ dp p.data.toList < 0 := fun h => dp_lt.1 h hP
  obtain ⟨m1, hm1⟩ : ∃ m, dp p.data.toList = m := ⟨_, rfl⟩
  rw [hm1] at d1
  have HM1 := Lib.hid hm1
  have HZ := Lib.hid (show p.size ≤ 9223372036854775807 by omega)
  have HP := Lib.hid hP
  have H6 := Lib.hid (show (prts p).length ≤ 6 by simp [prts]; exact hP.2.1)
  clear hm1 hP hlen
  go_enter Tryd.func9, Tryd.ntmps9
  go_wp2_with fail
  refine (deep_any p HZ.out _).mono ?_
  rintro e w1 ⟨rfl, hb⟩
  rw [HM1.out]
  have HB := Lib.hid hb
  clear hb
  go_wp2_with fail
  refine (parts_any p w1).mono ?_
  rintro e w2 ⟨rfl, hw⟩
  have HW := Lib.hid hw
  clear hw
  have HB2 := Lib.hid (show Below w.heap.size w w2 from HW.out ▸ HB.out.alloc HB.out.size _)
  have H1 := Lib.hid (show w1.heap.size < w2.heap.size by rw [← HW.out]; simp)
  have H2 := Lib.hid (show w2.cell? ⟨w1.heap.size, 0, none⟩ = some (.string p) by rw [← HW.out]; exact (Boxed.new w1 9 (.string p)).cell)
  go_wp2_with fail
  refine (collect_parts p HP.out.1 HZ.out H6.out w1.heap.size w2 H1.out H2.out).mono ?_
  rintro e w3 ⟨v, rfl, hr, _, hb⟩
  obtain ⟨a, cap, rfl, hrow⟩ := row_of_owns hr
  have HR := Lib.hid hrow
  have HB3 := Lib.hid (HB2.out.trans (hb.mono HB2.out.size))
  clear hr hrow hb
  go_wp2
  go_ret2
  exact ⟨a, cap, rfl, HR.out, HB3.out⟩

set_option maxHeartbeats 2000000 in
theorem split_bad (p : ByteArray) (hz : p.size ≤ 9223372036854775807) (h : ¬ isP p.data.toList) (w : World) :
    Calls Tryd.prog 9 #[.string p] w fun e w' => ∃ er, e = .returned (.tuple #[.slice none 0 0, er]) ∧ IsErr w' 2 er ∧ Below w.heap.size w w' := by
  have d1 : dp p.data.toList < 0 := dp_lt.2 h
  obtain ⟨m1, hm1⟩ : ∃ m, dp p.data.toList = m := ⟨_, rfl⟩
  rw [hm1] at d1
  have HM1 := Lib.hid hm1
  have HZ := Lib.hid hz
  clear hm1 h hz
  go_enter Tryd.func9, Tryd.ntmps9
  go_wp2_with fail
  refine (deep_any p HZ.out _).mono ?_
  rintro e w1 ⟨rfl, hb⟩
  rw [HM1.out]
  have HB := Lib.hid hb
  clear hb
  go_wp2_with fail
  refine (at_iface _ p 42 (.int .i64 2) w1).mono ?_
  rintro e w2 ⟨rfl, hw⟩
  have HC := Lib.hid (chain_at (w := w1) (n := 2) (l := []) (u := 42) (y := .int .i64 2) rfl ⟨#[115, 112, 108, 105, 116]⟩ p)
  have HW := Lib.hid hw
  clear hw
  go_wp2
  go_ret2
  exact ⟨_, rfl, ⟨_, HW.out ▸ HC.out⟩, HW.out ▸ HB.out.alloc HB.out.size _⟩
end Go.Proofs.YtpbkjijdilkkcaaDoor
