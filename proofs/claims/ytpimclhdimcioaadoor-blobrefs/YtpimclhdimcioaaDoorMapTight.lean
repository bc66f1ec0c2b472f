/-
  A map whose keys all lie from 0 on below m has at most m entries. No condition.
-/
import Derived.Test.YtpimclhdimcioaaDoorMapOf
import Derived.Maps.RangeWalk
namespace Go.Proofs.YtpimclhdimcioaaDoor
open Go.RowKit Go.Maps Go.WideElems Go.ChangeMaps Go.MapKept Go.WideShapes

theorem pigeon : ∀ (m : Nat) (l : List Int), l.Nodup → (∀ x ∈ l, 0 ≤ x ∧ x < (m : Int)) → l.length ≤ m
  | 0, [], _, _ => Nat.le_refl _
  | 0, x :: _, _, h => by have := h x List.mem_cons_self; omega
  | m + 1, l, hn, h => by
    by_cases hm : (m : Int) ∈ l
    · have h1 := pigeon m (l.erase (m : Int)) (hn.erase _) fun x hx => by
        have h2 := (hn.mem_erase_iff).1 hx
        have h3 := h x h2.2
        have h4 := h2.1
        omega
      rw [List.length_erase_of_mem hm] at h1
      omega
    · have h1 := pigeon m l hn fun x hx => by
        have h3 := h x hx
        have h4 : x ≠ (m : Int) := fun e => hm (e ▸ hx)
        omega
      omega

theorem MapOf.tight {P : Program} {k : TypeId} {w : World} {b n : Nat} {f : Int → Option Value} (h : MapOf P k w b n f) (hk : P.underlying k = some (.int .i64)) (m : Nat) (hm : ∀ i, f i ≠ none → 0 ≤ i ∧ i < (m : Int)) : MapOf P k w b m f := by
  obtain ⟨D, ⟨es, clock, hb, F, hs, rfl⟩, hat⟩ := h
  refine ⟨_, ⟨es, clock, hb, F, ?_, rfl⟩, hat⟩
  have K := int_keyed hk
  let g : Lit × DataW Value → Int := fun p => match p.1 with | .int _ i => i | _ => 0
  have hx : ∀ x ∈ es.toList, ∃ i, (rg P k anyElem x).1 = .int .i64 i ∧ (Lit.int .i64 i).wf = true ∧ f i ≠ none := fun x hx => by
    obtain ⟨y, hy⟩ := F.reads x hx
    have hkey := rd_key hy
    obtain ⟨i, _, h2, h3⟩ := Maps.keyOf_int_inv hk hkey
    have hrg : (rg P k anyElem x).1 = y.1 := by rw [rg_of hy]
    refine ⟨i, hrg.trans h2, h3, fun hf => ?_⟩
    have h4 := (atKey_sorted (es.toList.map (rg P k anyElem)) (Maps.fit_rising K F) y.1 (K.key hkey)).2 (rg P k anyElem x) (List.mem_map.2 ⟨x, hx, rfl⟩) hrg
    have h5 := hat i h3
    rw [hf, ← h2] at h5
    have h6 := (h5 .nil).symm.trans (h4 .nil)
    have h7 := (h5 (.held (.bool true))).symm.trans (h4 _)
    rw [← h6] at h7
    cases h7
  have hnd : ((es.toList.map (rg P k anyElem)).map g).Nodup := by
    rw [List.Nodup, List.pairwise_map]
    refine List.Pairwise.imp_of_mem ?_ (Maps.fit_apart K F)
    intro p q hp hq hne e
    obtain ⟨x, hx1, rfl⟩ := List.mem_map.1 hp
    obtain ⟨y, hy1, rfl⟩ := List.mem_map.1 hq
    obtain ⟨i, hi, _⟩ := hx x hx1
    obtain ⟨j, hj, _⟩ := hx y hy1
    apply hne
    simp only [g, hi, hj] at e
    rw [hi, hj, e]
  have := pigeon m _ hnd fun v hv => by
    obtain ⟨p, hp, rfl⟩ := List.mem_map.1 hv
    obtain ⟨x, hx1, rfl⟩ := List.mem_map.1 hp
    obtain ⟨i, hi, _, hf⟩ := hx x hx1
    simp only [g, hi]
    exact hm i hf
  simpa using this
end Go.Proofs.YtpimclhdimcioaaDoor
