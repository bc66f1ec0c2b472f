/-
  Contracts of the document's own Join of names (package shaleref03) and Parent of a path (package shaleref09). Conditions: six names at most, each of eight bytes at most; a path that is not the root's.
-/
import Derived.Test.YtkclclhmeenncaaDoorS3RefS
import Derived.Test.YtkclclhmeenncaaDoorPb
import Derived.Test.YtkclclhmeenncaaDoorPa
import Derived.Deep.LoopGhost
import Derived.Lib.Hide
import Derived.IntWalk
namespace Go.Proofs.YtkclclhmeenncaaDoor
open Go.RowKit

theorem Row.at9 {w w' : World} {a : Option Addr} {cap : Nat} {ns : List ByteArray} (h : Row w a cap ns) (hb : Below w.heap.size w w') {k : Nat} (hk : k < ns.length) : ∃ b off, a = some ⟨b, off, none⟩ ∧ w'.cell? ⟨b, off + k, none⟩ = some (.string ns[k]) := by
  rcases h.2 with h0 | ⟨b, off, rfl, hlt, hc⟩
  · rw [h0] at hk; simp at hk
  · exact ⟨b, off, rfl, (hb.cell (p := ⟨b, off + k, none⟩) hlt).trans (hc k ns[k] (List.getElem?_eq_getElem hk))⟩
theorem lists_take (ns : List ByteArray) (k : Nat) (h : k < ns.length) : jn (lists (ns.take (k + 1))) = jn (lists (ns.take k)) ++ (47 :: ns[k].data.toList) := by
  rw [List.take_add_one, List.getElem?_eq_getElem h, lists_append, jn_append]
  simp [lists, jn]
set_option maxRecDepth 10000 in
set_option maxHeartbeats 1000000 in
theorem refJoin9 (ns : List ByteArray) (a : Option Addr) (cap : Nat) (w : World) (h : Row w a cap ns) (h6 : ns.length ≤ 6) (h8 : ∀ x ∈ ns, x.size ≤ 8) : Calls Tryd.prog 31 #[.slice a ns.length cap] w fun e w' => e = .returned (.string (bs (pth (lists ns)))) ∧ w = w' := by
  have HE := Lib.hid h
  have H6 := Lib.hid h6
  have H8 := Lib.hid h8
  clear h h6 h8
  go_enter Tryd.func31, Tryd.ntmps31
  go_wp2
  go_loopg [3, 4] ns.length (fun g s i wx => ∃ (k : Nat) (t : ByteArray), s = .string t ∧ i = .int .i64 (k : Int) ∧ k + g = ns.length ∧ Hid (t.data.toList = jn (lists (ns.take k)) ∧ t.size ≤ 9 * k) ∧ w = wx)
  case atStart => exact ⟨0, ⟨#[]⟩, rfl, rfl, by omega, ⟨by simp [lists, jn], Nat.le_refl 0⟩, rfl⟩
  case round =>
    obtain ⟨k, t, rfl, rfl, hk, HI, rfl⟩ := hrel
    by_cases hlt : k < ns.length
    · have hlt' : (k : Int) < (ns.length : Int) := by omega
      obtain ⟨b, off, rfl, hc⟩ := HE.out.at9 (Below.refl _ _) hlt
      have HT := Lib.hid (lists_take ns k hlt)
      have HS := Lib.hid (H8.out _ (List.getElem_mem hlt))
      obtain ⟨x, hx⟩ : ∃ x, ns[k] = x := ⟨_, rfl⟩
      rw [hx] at hc HT HS
      clear hx
      have z1 : ¬ 9223372036854775807 < t.size + 1 := by have := HI.out.2; have := H6.out; omega
      have z2 : ¬ 9223372036854775807 < t.size + 1 + x.size := by have := HI.out.2; have := H6.out; have := HS.out; omega
      have hw : IntKind.i64.wrap ((k : Int) + 1) = (k : Int) + 1 := IntWalk.i64_in _ (by have := H6.out; omega)
      go_wp2
      go_roundg (gk - 1)
      case measure => omega
      case rel =>
        refine ⟨k + 1, _, rfl, by simp, by omega, ⟨?_, ?_⟩, rfl⟩
        · rw [HT.out, ← HI.out.1]
          simp [ByteArray.data_append]
        · simp only [ByteArray.size_append]
          have := HI.out.2
          have := HS.out
          have : (⟨#[47]⟩ : ByteArray).size = 1 := rfl
          omega
    · have hlt' : ¬ (k : Int) < (ns.length : Int) := by omega
      have HT := Lib.hid (show t.data.toList = jn (lists ns) by
        rw [HI.out.1, List.take_of_length_le (by omega)])
      by_cases h0 : ns = []
      · have hE : t = ⟨#[]⟩ := by
          apply ba_ext
          rw [HT.out, h0]
          rfl
        subst hE
        have HV := Lib.hid (show bs (pth (lists ns)) = ⟨#[47]⟩ by rw [h0]; rfl)
        clear h0
        go_wp2
        go_ret
        exact ⟨by rw [HV.out]; rfl, rfl⟩
      · have hl0 : lists ns ≠ [] := by simpa [lists] using h0
        obtain ⟨r, hr⟩ := jn_ne hl0
        have hE : t.toList.isEmpty = false := by
          rw [Lib.toList_data, HT.out, hr]
          rfl
        have HV := Lib.hid (show bs (pth (lists ns)) = t by
          apply ba_ext
          rw [bs_list, HT.out, pth, if_neg hl0])
        clear h0 hl0 hr
        go_wp2
        go_ret
        exact ⟨by rw [HV.out]; rfl, rfl⟩
theorem row_init {w : World} {a : Option Addr} {cap : Nat} {ns : List ByteArray} (h : Row w a cap ns) : Row w a cap ns.dropLast := by
  obtain ⟨h1, h2⟩ := h
  refine ⟨by simp; omega, ?_⟩
  rcases h2 with rfl | ⟨b, off, rfl, hlt, hc⟩
  · exact .inl rfl
  · exact .inr ⟨b, off, rfl, hlt, fun j x hx => hc j x (by
      rw [List.getElem?_dropLast] at hx
      split at hx
      · exact hx
      · cases hx)⟩
theorem lists_prts9 (p : ByteArray) : lists (prts p) = pcs p.data.toList := by
  unfold lists prts
  rw [List.map_map]
  conv => rhs; rw [← List.map_id (pcs p.data.toList)]
  apply List.map_congr_left
  intro x _
  exact bs_list x
set_option maxRecDepth 10000 in
set_option maxHeartbeats 1000000 in
theorem refPar9 (p : ByteArray) (hP : isP p.data.toList) (h1 : p.data.toList ≠ [47]) (w : World) : Calls Tryd.prog 17 #[.string p] w fun e w' => e = .returned (.string (bs (par9 p.data.toList))) ∧ Below w.heap.size w w' := by
  have hz : p.size ≤ 100000 := by have := isP_len hP; rw [← Lib.size_eq] at this; omega
  have HC := Lib.hid (fun X => refSplit_any p hz X)
  have hnn : names p = prts p := names_pos hP
  have hn0 : pcs p.data.toList ≠ [] := mt (pcs_nil hP).1 h1
  have hl : (names p).length = (names p).dropLast.length + 1 := by
    rw [List.length_dropLast, hnn]
    have : 0 < (prts p).length := by unfold prts; rw [List.length_map]; exact List.length_pos_iff.2 hn0
    omega
  have HV := Lib.hid (show bs (pth (lists (names p).dropLast)) = bs (par9 p.data.toList) by
    rw [hnn]
    unfold par9
    rw [← lists_prts9]
    unfold lists
    rw [List.map_dropLast])
  have H8 := Lib.hid (show ∀ x ∈ (names p).dropLast, x.size ≤ 8 from fun x hx => by
    have hx := List.dropLast_subset _ hx
    rw [hnn] at hx
    unfold prts at hx
    obtain ⟨y, hy, rfl⟩ := List.mem_map.1 hx
    rw [bs_size]
    exact nm_len (hP.2.2 y hy))
  have H6 := Lib.hid (names_len p)
  obtain ⟨ns, hns⟩ : ∃ ns, (names p).dropLast = ns := ⟨_, rfl⟩
  obtain ⟨m, hm⟩ : ∃ m, (names p).length = m := ⟨_, rfl⟩
  rw [hns] at HV H8 hl
  rw [hm] at hl H6
  have HNS := Lib.hid hns
  have HM := Lib.hid hm
  have HL := Lib.hid hl
  have hw : IntKind.i64.wrap ((m : Int) - 1) = (ns.length : Int) := by rw [hl]; rw [show ((ns.length + 1 : Nat) : Int) - 1 = (ns.length : Int) by omega]; exact IntWalk.i64_in _ (by have := H6.out; omega)
  have hle : (ns.length : Int) ≤ (m : Int) := by omega
  clear hz hP h1 hnn hn0 hl hns hm
  go_enter Tryd.func17, Tryd.ntmps17
  go_wp2_with fail
  refine (HC.out _).mono ?_
  rintro e w1 ⟨a, cap, rfl, hr, hb1⟩
  rw [HM.out]
  have HB := Lib.hid hb1
  have HR := Lib.hid (show Row w1 a cap ns by have := row_init hr; rw [HNS.out] at this; exact this)
  have hcap : m ≤ cap := by have := hr.1; rw [HM.out] at this; exact this
  have hcap' : (ns.length : Int) ≤ (cap : Int) := by omega
  clear hr hb1
  go_wp2_with fail
  refine (refJoin9 ns _ _ _ HR.out (by have := H6.out; have := HL.out; omega) H8.out).mono ?_
  rintro e w2 ⟨rfl, rfl⟩
  go_wp2
  go_ret
  exact ⟨by rw [← HV.out]; rfl, HB.out⟩
end Go.Proofs.YtkclclhmeenncaaDoor
