/-
  The contract of 'last' of layer 9's statements: a path's last name, as a path; whether an entry is right, told by it. Condition: errorType holds error's type.
-/
import Derived.Test.YtflomllfehoedaaDoorPk7
import Derived.Test.YtflomllfehoedaaDoorS3Path2
namespace Go.Proofs.YtflomllfehoedaaDoor
open Go.RowKit

/-- A path's last name, as a path; of what is none, and of the root, nothing. -/
def lst9 (p : List UInt8) : List UInt8 := if isP p ∧ p ≠ [47] then 47 :: (pcs p).getLast?.getD [] else []
theorem lst9_pos {p : List UInt8} (h : isP p ∧ p ≠ [47]) {ms : List (List UInt8)} {x : List UInt8} (e : pcs p = ms ++ [x]) : lst9 p = 47 :: x := by
  unfold lst9
  rw [if_pos h, e]
  simp
theorem lst9_neg {p : List UInt8} (h : ¬ (isP p ∧ p ≠ [47])) : lst9 p = [] := if_neg h
theorem lst9_len (p : List UInt8) : (lst9 p).length ≤ 9 := by
  by_cases h : isP p ∧ p ≠ [47]
  · obtain ⟨ms, x, _, a2, a3, _⟩ := par h.1 h.2
    rw [lst9_pos h a3, List.length_cons]
    have := nm_len a2
    omega
  · rw [lst9_neg h]; simp
theorem dp_iff {p : List UInt8} : 1 ≤ dp p ↔ isP p ∧ p ≠ [47] := by
  constructor
  · intro h
    have hp := isP_of_dp h
    refine ⟨hp, fun e => ?_⟩
    rw [dp_pos hp, (pcs_nil hp).2 e] at h
    simp at h
  · rintro ⟨h1, h2⟩
    rw [dp_pos h1]
    have := List.length_pos_iff.2 (mt (pcs_nil h1).1 h2)
    omega
theorem right_one {y : Ent} : RightL [y] ↔ rE y = true ∧ par9 (pl y) = [47] := by
  constructor
  · rintro ⟨_, h1, _, h3⟩
    refine ⟨h1 y (by simp), ?_⟩
    rcases h3 y (by simp) with h | ⟨d, hd1, hd2, _⟩
    · exact h
    · obtain rfl : d = y := by simpa using hd1
      obtain ⟨p1, p2⟩ := rE_isP (h1 d (by simp))
      have := par9_lt p1 p2
      rw [← hd2, lt8_irr] at this
      cases this
  · rintro ⟨h1, h2⟩
    refine ⟨by simp, fun e he => ?_, by simp [Asc], fun e he => ?_⟩
    · obtain rfl : e = y := by simpa using he
      exact h1
    · obtain rfl : e = y := by simpa using he
      exact .inl h2
/-- Whether an entry is right is told by its last name as a path, its kind and data, and by its path's depth. -/
theorem rE_last (x : Ent) : rE x = true ↔ RightL [(bs (lst9 (pl x)), x.2.1, x.2.2)] ∧ 1 ≤ dp (pl x) := by
  rw [right_one]
  by_cases h : isP (pl x) ∧ pl x ≠ [47]
  · have hd := dp_iff.2 h
    obtain ⟨ms, z, a1, a2, a3, _⟩ := par h.1 h.2
    have hg : good [z] := ⟨by simp, by simpa using a2⟩
    have hq : lst9 (pl x) = pth [z] := by rw [lst9_pos h a3]; simp [pth, jn]
    have hP : isP (lst9 (pl x)) := by rw [hq]; exact isP_pth hg
    have hpc : pcs (lst9 (pl x)) = [z] := by rw [hq]; exact pcs_pth hg.2
    have h1 : 1 ≤ dp (lst9 (pl x)) := by rw [dp_pos hP, hpc]; simp
    have hpl : pl ((bs (lst9 (pl x)), x.2.1, x.2.2) : Ent) = lst9 (pl x) := bs_list _
    have hpar : par9 (lst9 (pl x)) = [47] := by unfold par9; rw [hpc]; rfl
    rw [hpl, hpar]
    unfold rE
    rw [rightE_iff, rightE_iff, bs_list]
    simp only [hd, h1, true_and, and_true]
  · have hn : ¬ 1 ≤ dp (pl x) := mt dp_iff.1 h
    constructor
    · intro h1
      exact absurd (rightE_iff.1 h1).1 hn
    · rintro ⟨_, h2⟩
      exact absurd h2 hn
set_option maxRecDepth 10000 in
set_option maxHeartbeats 1000000 in
theorem last9 (p : ByteArray) (hz : p.size ≤ 100000) (w : World) (hg : EtLaid w) : Calls Tryd.prog 24 #[.string p] w fun e w' => e = .returned (.string (bs (lst9 p.data.toList))) ∧ Below w.heap.size w w' := by
  have HS0 := Lib.hid (st_self hg)
  clear hg
  by_cases hP : isP p.data.toList
  · by_cases h47 : p.data.toList = [47]
    · have hp : p = ⟨#[47]⟩ := ba_ext h47
      subst hp
      have HV := Lib.hid (show bs (lst9 (⟨#[47]⟩ : ByteArray).data.toList) = ⟨#[]⟩ by rw [lst9_neg (fun h => h.2 rfl)]; rfl)
      clear hP h47 hz
      go_enter Tryd.func24, Tryd.ntmps24
      go_wp2_with fail
      refine (parent_root _).mono ?_
      rintro e w1 ⟨er, rfl, her, hb⟩
      have HS1 := Lib.hid (HS0.out.next hb)
      have HE := Lib.hid her
      clear her hb
      go_wp2_with fail
      refine (code_isErr _ _ _ HE.out HS1.out.et).mono ?_
      rintro e w2 ⟨rfl, hb⟩
      have HS2 := Lib.hid (HS1.out.next hb)
      clear hb
      go_wp2
      go_ret
      exact ⟨by rw [HV.out]; rfl, HS2.out.below⟩
    · obtain ⟨ms, x, a1, a2, a3, a4⟩ := par hP h47
      have HC := Lib.hid (parent_good p ms x hP a2 a4 h47 w)
      have HV := Lib.hid (lst9_pos ⟨hP, h47⟩ a3)
      have HX := Lib.hid (nm_len a2)
      clear a1 a2 a3 a4 hP h47 hz
      go_enter Tryd.func24, Tryd.ntmps24
      go_wp2_with fail
      refine HC.out.mono ?_
      rintro e w1 ⟨d, n, rfl, _, hn, hb⟩
      have HS1 := Lib.hid (HS0.out.next hb)
      have z1 : ¬ 9223372036854775807 < 1 + n.size := by have := HX.out; rw [← hn, ← Lib.size_eq] at this; omega
      have HR := Lib.hid (show (⟨#[47]⟩ : ByteArray) ++ n = bs (lst9 p.data.toList) by
        apply ba_ext
        rw [bs_list, HV.out, ByteArray.data_append, Array.toList_append, hn]
        rfl)
      clear hb hn
      go_wp2_with fail
      refine (code_er 0 .nilIface _ (er_nil _) HS1.out.et).mono ?_
      rintro e w2 ⟨rfl, hb⟩
      have HS2 := Lib.hid (HS1.out.next hb)
      clear hb
      go_wp2
      go_ret
      exact ⟨by rw [← HR.out]; rfl, HS2.out.below⟩
  · have HC := Lib.hid (parent_bad p (by omega) hP w)
    have HV := Lib.hid (show bs (lst9 p.data.toList) = ⟨#[]⟩ by rw [lst9_neg (fun h => hP h.1)]; rfl)
    clear hP hz
    go_enter Tryd.func24, Tryd.ntmps24
    go_wp2_with fail
    refine HC.out.mono ?_
    rintro e w1 ⟨er, rfl, her, hb⟩
    have HS1 := Lib.hid (HS0.out.next hb)
    have HE := Lib.hid her
    clear her hb
    go_wp2_with fail
    refine (code_isErr _ _ _ HE.out HS1.out.et).mono ?_
    rintro e w2 ⟨rfl, hb⟩
    have HS2 := Lib.hid (HS1.out.next hb)
    clear hb
    go_wp2
    go_ret
    exact ⟨by rw [HV.out]; rfl, HS2.out.below⟩
end Go.Proofs.YtflomllfehoedaaDoor
