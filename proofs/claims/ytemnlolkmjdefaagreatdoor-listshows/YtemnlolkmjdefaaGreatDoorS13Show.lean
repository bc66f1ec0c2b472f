/-
  A name in a directory shows just if something lies at the path that it makes there (ListShows). No condition.
-/
import Derived.Test.YtemnlolkmjdefaaGreatDoorPb
namespace Go.Proofs.YtemnlolkmjdefaaGreatDoor
open Go.RowKit

/-- The path that a text makes in a directory. -/
def at13 (p n : List UInt8) : List UInt8 := if p = [47] then 47 :: n else p ++ 47 :: n
theorem pcs_ns {ns : List (List UInt8)} (h : ∀ x ∈ ns, 47 ∉ x ∧ x ≠ []) : pcs (pth ns) = ns := by
  cases ns with
  | nil => rfl
  | cons x ns =>
    have hx := h x (by simp)
    rw [pth, if_neg (by simp), jn_cons, pcs, if_neg, spl_jn ns (fun y hy => (h y (by simp [hy])).1) x hx.1]
    intro e
    exact hx.2 (List.append_eq_nil_iff.1 e).1
theorem show_iff {S : List (List Ent)} (hS : ∀ l ∈ S, RightL l) {p n : List UInt8} (hp : isP p) (hn : 47 ∉ n) (h0 : n ≠ []) : n ∈ nmsV (stk S) p ↔ (atS S (at13 p n)).1 = 0 := by
  have hq : at13 p n = cp13 p n := (cp_text hp n).symm
  rw [hq]
  constructor
  · intro h
    obtain ⟨x, hx, h1, h2⟩ := mem_nms.1 h
    obtain ⟨x1, x2⟩ := rE_isP ((tr_stk hS).1.1 x hx)
    have := cp_last x1 x2
    rw [h1, h2] at this
    rw [this]
    exact (at_mem hS hx).1
  · intro h
    have hP : isP (cp13 p n) := by
      by_cases h1 : isP (cp13 p n)
      · exact h1
      · rw [atS_bad h1] at h
        cases h
    have hpc : pcs (cp13 p n) = pcs p ++ [n] := pcs_ns fun x hx => by
      rcases List.mem_append.1 hx with hx | hx
      · exact ⟨hp.noslash x hx, nm_ne (hp.2.2 x hx)⟩
      · obtain rfl : x = n := by simpa using hx
        exact ⟨hn, h0⟩
    have hr : cp13 p n ≠ [47] := fun e => by
      rw [e] at hpc
      have := congrArg List.length hpc
      rw [List.length_append] at this
      simp [pcs] at this
    have h3 := (shows_iff hS hP hr).2 h
    have h4 : lastN (cp13 p n) = n := by
      unfold lastN
      rw [hpc]
      simp
    have h5 : par9 (cp13 p n) = p := by
      unfold par9
      rw [hpc, List.dropLast_concat]
      exact hp.eq
    rwa [h4, h5] at h3
end Go.Proofs.YtemnlolkmjdefaaGreatDoor
