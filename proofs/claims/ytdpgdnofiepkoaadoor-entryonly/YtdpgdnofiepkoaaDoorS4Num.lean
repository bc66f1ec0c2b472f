/-
  The contract of package code's Num: a number's bytes; what was in memory stays. Condition: the number is one from 0 to 2^62.
-/
import Derived.Test.YtdpgdnofiepkoaaDoorProg
import Derived.Test.YtdpgdnofiepkoaaDoorS4Math
import Derived.WalkKit
import Derived.Lib.Hide
import Derived.Deep.LoopGhost
import Derived.Laws.AppendOwn
import Derived.RangeFuncBox
import Derived.Maps.AppendAt
import Derived.Laws.IdiomStrings
namespace Go.Proofs.YtdpgdnofiepkoaaDoor
open Go.RowKit

theorem infoByte : (Tryd.prog.info? 5).map (fun i => (i.zero, i.size, i.bytes)) = some (some (.int .u8 0), 1, 1) := by kernel_rfl

/-- Bytes as cells. -/
def cells8 (l : List UInt8) : List Value := l.map fun c => .int .u8 (c.toNat : Int)

theorem conv_own {w : World} {base : Nat} {l : List UInt8} {g cap : Nat} (h : w.ownsRow base 5 1 (.slice (some ⟨g, 0, none⟩) l.length cap) l.length (cells8 l)) :
    (convert 53 9 (.slice (some ⟨g, 0, none⟩) l.length cap)).run Tryd.prog w = .ok (.string ⟨l.toArray⟩) w := by
  refine run_convert_bytes_back w 53 9 5 ⟨g, 0, none⟩ cap l Tryd.underlying53 Tryd.underlying5 Tryd.underlying9 (fun j hj => ?_)
  obtain ⟨_, ⟨h1, _⟩ | ⟨g', cap', cur, h1, _, h2, _, _, _, h3⟩⟩ := h
  · cases h1
  · obtain ⟨rfl, rfl⟩ : g = g' ∧ cap = cap' := by simpa using h1
    rw [Addr.add_lit, Nat.zero_add]
    have h4 : cur[j]? = some (.int .u8 (l[j].toNat : Int)) := by
      have := congrArg (·[j]?) h3
      simp only [List.getElem?_take, Nat.mul_one, if_pos hj] at this
      rw [Array.getElem?_toList] at this
      rw [this, cells8, List.getElem?_map, List.getElem?_eq_getElem hj]
      rfl
    simp [World.cell?, h2, h4]

theorem own_block8 {w : World} {B : Nat} {e : TypeId} {v : Value} {n : Nat} {xs : List Value} (h : w.ownsRow B e 1 v n xs) : ∀ k, v.ownBlock = some k → B ≤ k := fun k hk => by
  obtain ⟨_, ⟨rfl, _⟩ | ⟨g, cap, cur, rfl, hg, _⟩⟩ := h
  · cases hk
  · simp [Value.ownBlock] at hk
    omega

set_option maxRecDepth 10000 in
set_option maxHeartbeats 2000000 in
theorem num_any (n : Nat) (hn : n ≤ 4611686018427387904) (w : World) :
    Calls Tryd.prog 24 #[.int .i64 (n : Int)] w fun e w' => e = .returned (.string (numB n)) ∧ Below w.heap.size w w' := by
  obtain ⟨i0, hi, hz0, hz1, hz2⟩ := info_parts infoByte
  have HI := Lib.hid hi
  have HZ0 := Lib.hid hz0
  have HZ1 := Lib.hid hz1
  have HZ2 := Lib.hid hz2
  clear hi hz0 hz1 hz2
  have HN := Lib.hid hn
  have h0 : ¬ (n : Int) < 0 := by omega
  have h1 : ¬ (4611686018427387904 : Int) < (n : Int) := by omega
  clear hn
  go_enter Tryd.func24, Tryd.ntmps24
  go_wp2
  go_loopg [0, 3] n (fun g a v wr => ∃ (l : List UInt8) (ao : Option Addr) (cap : Nat), a = .int .i64 (g : Int) ∧ v = .slice ao l.length cap ∧ Hid (g ≤ n ∧ l ++ dg g = dg n ∧ wr.ownsRow w.heap.size 5 1 (.slice ao l.length cap) l.length (cells8 l) ∧ Below w.heap.size w wr))
  case atStart => exact ⟨[], none, 0, rfl, rfl, Nat.le_refl _, rfl, World.ownsRow_nil _ _ _ _, Below.refl _ _⟩
  case round =>
    obtain ⟨l, ao, cap, rfl, rfl, HR⟩ := hrel
    have hle : gk ≤ 4611686018427387904 := Nat.le_trans HR.out.1 HN.out
    have hll : l.length ≤ 9 := by
      have h2 := congrArg List.length HR.out.2.1
      have := dg_nine HN.out
      simp at h2
      omega
    clear h0 h1
    by_cases hlt : gk < 128
    · have hlt' : ¬ (128 : Int) ≤ (gk : Int) := by omega
      have HV := Lib.hid (show (gk : Int) = ((UInt8.ofNat gk).toNat : Int) by rw [ofNat_toNat (by omega)])
      go_wp2_with (at_builtin; refine wpList_append_own _ rfl _ _ 53 rfl w.heap.size 5 i0 (.int .u8 0) 1 1 Tryd.underlying53 HI.out HZ0.out HZ1.out HZ2.out rfl (by decide) _ _ _ rfl (HR.out.2.2.1.alloc _) ⟨wr.heap.size, 0, none⟩ 1 1 [.int .u8 (gk : Int)] rfl rfl (cell_one_new _ _ _) ?c2 ?c3 ?c4 ?c5 ?_)
      case c2 => first | rfl | (intro u hu; simp at hu; subst hu; rfl)
      case c3 => unfold maxLen; omega
      case c4 => omega
      case c5 => have := HR.out.2.2.2.size; simp; omega
      intro v' w3 hown' hgrow _
      obtain ⟨g', cap', rfl⟩ := ownsRow_succ hown'
      have hown2 : w3.ownsRow w.heap.size 5 1 (.slice (some ⟨g', 0, none⟩) (l ++ [UInt8.ofNat gk]).length cap') (l ++ [UInt8.ofNat gk]).length (cells8 (l ++ [UInt8.ofNat gk])) := by
        have e : cells8 (l ++ [UInt8.ofNat gk]) = cells8 l ++ [.int .u8 (gk : Int)] := by
          unfold cells8
          rw [List.map_append]
          congr 1
          exact congrArg (fun x => [Value.int .u8 x]) HV.out.symm
        rw [e, List.length_append]
        exact hown'
      have hc := conv_own hown2
      have hlen : (l ++ [UInt8.ofNat gk]).length = l.length + 1 := by simp
      rw [hlen] at hc
      have HB := Lib.hid ((HR.out.2.2.2.alloc HR.out.2.2.2.size _).grown hgrow (by have := HR.out.2.2.2.size; simp; omega) (own_block8 HR.out.2.2.1))
      have HE := Lib.hid (show l ++ [UInt8.ofNat gk] = dg n by rw [← dg_last hlt]; exact HR.out.2.1)
      clear hown2 hown' hgrow hlen
      go_wp2
      go_ret
      exact ⟨by rw [HE.out]; rfl, HB.out⟩
    · have hlt' : (128 : Int) ≤ (gk : Int) := by omega
      have HV := Lib.hid (show (gk : Int) % 128 + 128 = ((UInt8.ofNat (gk % 128 + 128)).toNat : Int) by rw [ofNat_toNat (by omega)]; omega)
      go_wp2_with (at_builtin; refine wpList_append_own _ rfl _ _ 53 rfl w.heap.size 5 i0 (.int .u8 0) 1 1 Tryd.underlying53 HI.out HZ0.out HZ1.out HZ2.out rfl (by decide) _ _ _ rfl (HR.out.2.2.1.alloc _) ⟨wr.heap.size, 0, none⟩ 1 1 [.int .u8 ((gk : Int) % 128 + 128)] rfl rfl (cell_one_new _ _ _) ?c2 ?c3 ?c4 ?c5 ?_)
      case c2 => first | rfl | (intro u hu; simp at hu; subst hu; rfl)
      case c3 => unfold maxLen; omega
      case c4 => omega
      case c5 => have := HR.out.2.2.2.size; simp; omega
      intro v' w3 hown' hgrow _
      obtain ⟨g', cap', rfl⟩ := ownsRow_succ hown'
      have hown2 : w3.ownsRow w.heap.size 5 1 (.slice (some ⟨g', 0, none⟩) (l ++ [UInt8.ofNat (gk % 128 + 128)]).length cap') (l ++ [UInt8.ofNat (gk % 128 + 128)]).length (cells8 (l ++ [UInt8.ofNat (gk % 128 + 128)])) := by
        have e : cells8 (l ++ [UInt8.ofNat (gk % 128 + 128)]) = cells8 l ++ [.int .u8 ((gk : Int) % 128 + 128)] := by
          unfold cells8
          rw [List.map_append]
          congr 1
          exact congrArg (fun x => [Value.int .u8 x]) HV.out.symm
        rw [e, List.length_append]
        exact hown'
      have HO := Lib.hid hown2
      have HB := Lib.hid ((HR.out.2.2.2.alloc HR.out.2.2.2.size _).grown hgrow (by have := HR.out.2.2.2.size; simp; omega) (own_block8 HR.out.2.2.1))
      have HE := Lib.hid (show (l ++ [UInt8.ofNat (gk % 128 + 128)]) ++ dg (gk / 128) = dg n by rw [List.append_assoc, List.singleton_append, ← dg_more hlt]; exact HR.out.2.1)
      clear hown2 hown' hgrow
      go_wp2
      go_roundg (gk / 128)
      case measure => omega
      case rel => exact ⟨l ++ [UInt8.ofNat (gk % 128 + 128)], some ⟨g', 0, none⟩, cap', by simp, by simp, by have := HR.out.1; omega, HE.out, HO.out, HB.out⟩
end Go.Proofs.YtdpgdnofiepkoaaDoor
