/-
  The contract of path.Parent at a path below the root. Condition: a text's size fits an int.
-/
import Derived.Test.YtlnjbadbpddlmaaDoorS3Collect
import Derived.Test.YtlnjbadbpddlmaaDoorPa
import Derived.StillTailTactics
namespace Go.Proofs.YtlnjbadbpddlmaaDoor
open Go.RowKit

theorem isP_len3 {p : List UInt8} (h : isP p) : p.length ≤ 54 := by
  have hj : ∀ ns : List (List UInt8), (∀ x ∈ ns, nm x = true) → (jn ns).length ≤ 9 * ns.length := by
    intro ns
    induction ns with
    | nil => intro _; simp [jn]
    | cons x ns ih =>
      intro hn
      have h1 := ih (fun y hy => hn y (by simp [hy]))
      have h2 := nm_len (hn x (by simp))
      rw [jn_cons]
      simp
      omega
  rw [← h.eq, pth]
  split
  · simp
  · have := hj _ h.2.2
    have := h.2.1
    omega

set_option maxHeartbeats 2000000 in
theorem parent_good (p : ByteArray) (ms : List (List UInt8)) (x : List UInt8) (hP : isP p.data.toList) (hx : nm x = true) (he : p.data.toList = jn ms ++ 47 :: x) (hne : p.data.toList ≠ [47]) (w : World) :
    Calls Tryd.prog 29 #[.string p] w fun e w' => ∃ d n, e = .returned (.tuple #[.string d, .string n, .nilIface]) ∧ d.data.toList = pth ms ∧ n.data.toList = x ∧ Below w.heap.size w w' := by
  have hlen := isP_len3 hP
  rw [← Lib.size_eq] at hlen
  have d1 : ¬ dp p.data.toList < 0 := fun h => dp_lt.1 h hP
  obtain ⟨m1, hm1⟩ : ∃ m, dp p.data.toList = m := ⟨_, rfl⟩
  rw [hm1] at d1
  have hs' : (p.toList == [47]) = false := by rw [eq_slash]; simpa using hne
  obtain ⟨k, hk⟩ : ∃ k, (jn ms).length = k := ⟨_, rfl⟩
  have hsz : p.size = k + 1 + x.length := by rw [Lib.size_eq, he]; simp [hk]; omega
  have HX : (p.extract (k + 1) p.size).data.toList = x := by
    rw [Lib.extract_data, he, show jn ms ++ 47 :: x = (jn ms ++ [47]) ++ x by simp, List.drop_left' (by simp [hk]), List.take_of_length_le (by omega)]
  have HDd : ∀ m : Nat, ((m = k ∧ 1 ≤ k) ∨ (m = 1 ∧ k = 0)) → (p.extract 0 m).data.toList = pth ms := by
    rintro m (⟨rfl, h1⟩ | ⟨rfl, h0⟩)
    · have hn : ms ≠ [] := fun e => by rw [e] at hk; simp [jn] at hk; omega
      rw [Lib.extract_data, he, List.drop_zero, Nat.sub_zero, List.take_left' hk, pth, if_neg hn]
    · have hn : ms = [] := by
        cases ms with
        | nil => rfl
        | cons y ms => rw [jn_cons, h0] at hk; simp at hk
      subst hn
      rw [Lib.extract_data, he]
      simp [jn, pth]
  have H1 := Lib.hid HX
  have H2 := Lib.hid HDd
  have HM1 := Lib.hid hm1
  have HZ := Lib.hid (show p.size ≤ 9223372036854775807 by omega)
  have HL := Lib.hid (LastIndex47 p (jn ms) x he (nm_noslash hx) HZ.out)
  rw [hk] at HL
  have c1 : (k : Int) + 1 ≤ p.size := by omega
  have c2 : (k : Int) ≤ p.size := by omega
  have c3 : IntKind.i64.wrap ((k : Int) + 1) = (k : Int) + 1 := IntWalk.i64_in _ (by omega)
  have c4 : ((k : Int) + 1).toNat = k + 1 := by omega
  have c5 : (0 : Int) ≤ (k : Int) + 1 := by omega
  clear HX HDd hm1 he hne hP hx hsz hlen
  go_enter Tryd.func29, Tryd.ntmps29
  go_wp2_with fail
  refine (deep_any p HZ.out _).mono ?_
  rintro e w1 ⟨rfl, hb⟩
  rw [HM1.out]
  have HB := Lib.hid hb
  clear hb
  go_wp2_with fail
  refine (HL.out w1).mono ?_
  rintro e w2 ⟨rfl, rfl⟩
  go_wp2
  go_region
  go_wp2
  · go_ret3
    exact ⟨_, _, rfl, H2.out 1 (.inr ⟨rfl, by omega⟩), H1.out, HB.out.drew⟩
  · go_ret3
    exact ⟨_, _, rfl, H2.out k (.inl ⟨rfl, by omega⟩), H1.out, HB.out.drew⟩
end Go.Proofs.YtlnjbadbpddlmaaDoor
