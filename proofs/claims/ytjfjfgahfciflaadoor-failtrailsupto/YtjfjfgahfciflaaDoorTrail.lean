/-
  Contracts of errors.As where a Fault is sought, and of Trail: what was done, of each wrapping, the outermost first. Conditions: the chain lies in memory; errorType holds error's type.
-/
import Derived.Test.YtjfjfgahfciflaaDoorFail
import Derived.OwnWalk
namespace Go.Proofs.YtjfjfgahfciflaaDoor
open Go.RowKit Go.Extern.Stop Go.Stop Go.Extern

set_option maxHeartbeats 4000000 in
theorem asFa_hit (v : Addr) (t : Addr) (old : Value) (w : World) (hg : EtLaid w) (ht : w.cell? t = some old) (hf : w.frozen? t = false) :
    Calls Tryd.prog 15 #[.iface 41 (.pointer (some v)), .iface 44 (.pointer (some t))] w
      fun ev w' => ev = .returned (.bool true) ∧ ((((w.alloc (.cells #[.pointer (some t)] 44)).alloc (.cells #[.pointer (some ⟨1, 44, none⟩), .pointer (some ⟨w.heap.size, 0, none⟩), .int .u64 150] 50)).alloc (.cells #[.pointer (some ⟨1, 44, none⟩), .pointer (some ⟨w.heap.size, 0, none⟩), .int .u64 150] 50)).alloc (.cells #[.pointer (some v)] 41)).setCell t (.pointer (some v)) = w' := by
  have x1 := Tryd.xValueOf
  have x2 := Tryd.xVType
  have x3 := Tryd.xKind
  have x4 := Tryd.xVIsNil
  have x5 := Tryd.xTElem
  have x6 := Tryd.xTImpl
  have x7 := Tryd.xTypeOf
  have x8 := Tryd.xTAssign
  have x9 := Tryd.xVElem
  have x10 := Tryd.xVSet
  have v1 := Tryd.valueOfPFa
  have v2 := Tryd.valueOfFa
  have t1 := Tryd.typePFa
  have t2 := Tryd.typeOfFa
  have m1 := Tryd.methodKind
  have m2 := Tryd.methodElem
  have m3 := Tryd.methodImplements
  have m4 := Tryd.methodAssignableTo
  have k1 := Tryd.kindPFa
  have k2 := Tryd.kindFa
  have e1 := Tryd.elemPFa
  have i1 := Tryd.implementsFa
  have a1 := Tryd.assignFaFa
  have htl := lt_of_cell ht
  have n1 := Tryd.isNilPFa ⟨w.heap.size, 0, none⟩ t ((w.alloc (.cells #[.pointer (some t)] 44)).alloc (.cells #[.pointer (some ⟨1, 44, none⟩), .pointer (some ⟨w.heap.size, 0, none⟩), .int .u64 150] 50)) (by simp)
  have hb : Below w.heap.size w ((w.alloc (.cells #[.pointer (some t)] 44)).alloc (.cells #[.pointer (some ⟨1, 44, none⟩), .pointer (some ⟨w.heap.size, 0, none⟩), .int .u64 150] 50)) := ((Below.refl _ _).alloc (Nat.le_refl _) _).alloc (by simp) _
  have hg2 : ((w.alloc (.cells #[.pointer (some t)] 44)).alloc (.cells #[.pointer (some ⟨1, 44, none⟩), .pointer (some ⟨w.heap.size, 0, none⟩), .int .u64 150] 50)).cell? ⟨0, 0, none⟩ = some (.iface 62 (.agg #[.pointer (some ⟨1, 25, none⟩)])) := hg.below hg.lt hb
  have el := Tryd.elemVPFa ⟨w.heap.size, 0, none⟩ t (((w.alloc (.cells #[.pointer (some t)] 44)).alloc (.cells #[.pointer (some ⟨1, 44, none⟩), .pointer (some ⟨w.heap.size, 0, none⟩), .int .u64 150] 50)).alloc (.cells #[.pointer (some ⟨1, 44, none⟩), .pointer (some ⟨w.heap.size, 0, none⟩), .int .u64 150] 50)) (by rw [World.cell?_alloc_lt _ _ ⟨w.heap.size, 0, none⟩ (by simp; omega)]; simp)
  have st := Tryd.setFa t ⟨w.heap.size + 1 + 1 + 1, 0, none⟩ v old ((((w.alloc (.cells #[.pointer (some t)] 44)).alloc (.cells #[.pointer (some ⟨1, 44, none⟩), .pointer (some ⟨w.heap.size, 0, none⟩), .int .u64 150] 50)).alloc (.cells #[.pointer (some ⟨1, 44, none⟩), .pointer (some ⟨w.heap.size, 0, none⟩), .int .u64 150] 50)).alloc (.cells #[.pointer (some v)] 41))
    (by rw [World.cell?_alloc_at _ _ _ _ (by simp)]; rfl)
    (by rw [World.cell?_alloc_lt _ _ t (by simp; omega), World.cell?_alloc_lt _ _ t (by simp; omega), World.cell?_alloc_lt _ _ t (by simp; omega), World.cell?_alloc_lt _ _ t htl]; exact ht)
    (by rw [World.frozen?_alloc_old _ _ t (by simp; omega), World.frozen?_alloc_old _ _ t (by simp; omega), World.frozen?_alloc_old _ _ t (by simp; omega), World.frozen?_alloc_old _ _ t (Nat.ne_of_lt htl)]; exact hf)
  clear hb hg ht hf
  go_enter Tryd.func15, Tryd.ntmps15
  go_wp2
  refine wp_loop_rounds 1 ?_
  rw [rounds_succ]
  go_wp2
  go_ret
  exact ⟨rfl, rfl⟩

set_option maxHeartbeats 4000000 in
theorem asFa_miss (n : Int) (t : Addr) (w : World) (hg : EtLaid w) :
    Calls Tryd.prog 15 #[.iface 29 (.int .i64 n), .iface 44 (.pointer (some t))] w
      fun ev w' => ev = .returned (.bool false) ∧ ((w.alloc (.cells #[.pointer (some t)] 44)).alloc (.cells #[.pointer (some ⟨1, 44, none⟩), .pointer (some ⟨w.heap.size, 0, none⟩), .int .u64 150] 50)).alloc (.cells #[.pointer (some ⟨1, 44, none⟩), .pointer (some ⟨w.heap.size, 0, none⟩), .int .u64 150] 50) = w' := by
  have x1 := Tryd.xValueOf
  have x2 := Tryd.xVType
  have x3 := Tryd.xKind
  have x4 := Tryd.xVIsNil
  have x5 := Tryd.xTElem
  have x6 := Tryd.xTImpl
  have x7 := Tryd.xTypeOf
  have x8 := Tryd.xTAssign
  have v1 := Tryd.valueOfPFa
  have t1 := Tryd.typePFa
  have t2 := Tryd.typeOfNo
  have m1 := Tryd.methodKind
  have m2 := Tryd.methodElem
  have m3 := Tryd.methodImplements
  have m4 := Tryd.methodAssignableTo
  have k1 := Tryd.kindPFa
  have k2 := Tryd.kindFa
  have e1 := Tryd.elemPFa
  have i1 := Tryd.implementsFa
  have a1 := Tryd.assignNoFa
  have s1 := Tryd.noAsNo
  have s2 := Tryd.noUnNo
  have s3 := Tryd.noUnsNo
  have n1 := Tryd.isNilPFa ⟨w.heap.size, 0, none⟩ t ((w.alloc (.cells #[.pointer (some t)] 44)).alloc (.cells #[.pointer (some ⟨1, 44, none⟩), .pointer (some ⟨w.heap.size, 0, none⟩), .int .u64 150] 50)) (by simp)
  have hb : Below w.heap.size w ((w.alloc (.cells #[.pointer (some t)] 44)).alloc (.cells #[.pointer (some ⟨1, 44, none⟩), .pointer (some ⟨w.heap.size, 0, none⟩), .int .u64 150] 50)) := ((Below.refl _ _).alloc (Nat.le_refl _) _).alloc (by simp) _
  have hg2 : ((w.alloc (.cells #[.pointer (some t)] 44)).alloc (.cells #[.pointer (some ⟨1, 44, none⟩), .pointer (some ⟨w.heap.size, 0, none⟩), .int .u64 150] 50)).cell? ⟨0, 0, none⟩ = some (.iface 62 (.agg #[.pointer (some ⟨1, 25, none⟩)])) := hg.below hg.lt hb
  clear hb hg
  go_enter Tryd.func15, Tryd.ntmps15
  go_wp2
  refine wp_loop_rounds 1 ?_
  rw [rounds_succ]
  go_wp2
  go_ret
  exact ⟨rfl, rfl⟩

theorem asFa_hit_below (v : Addr) (t : Addr) (old : Value) (w : World) (hg : EtLaid w) (ht : w.cell? t = some old) (hf : w.frozen? t = false) :
    Calls Tryd.prog 15 #[.iface 41 (.pointer (some v)), .iface 44 (.pointer (some t))] w fun ev w' => ev = .returned (.bool true) ∧ ∃ w1, Below w.heap.size w w1 ∧ w1.setCell t (.pointer (some v)) = w' :=
  (asFa_hit v t old w hg ht hf).mono fun _ _ ⟨he, hw⟩ => ⟨he, _, ((((Below.refl _ _).alloc (Nat.le_refl _) _).alloc (by simp) _).alloc (by simp; omega) _).alloc (by simp; omega) _, hw⟩
theorem asFa_miss_below (n : Int) (t : Addr) (w : World) (hg : EtLaid w) :
    Calls Tryd.prog 15 #[.iface 29 (.int .i64 n), .iface 44 (.pointer (some t))] w fun ev w' => ev = .returned (.bool false) ∧ Below w.heap.size w w' :=
  (asFa_miss n t w hg).mono fun _ _ ⟨he, hw⟩ => ⟨he, hw ▸ (((Below.refl _ _).alloc (Nat.le_refl _) _).alloc (by simp) _).alloc (by simp; omega) _⟩

theorem ownsRow_below {w w' : World} {base : Nat} {e : TypeId} {size : Nat} {v : Value} {n : Nat} {xs : List Value} (h : w.ownsRow base e size v n xs) (hb : Below w.heap.size w w') : w'.ownsRow base e size v n xs := by
  refine ⟨h.1, ?_⟩
  rcases h.2 with h2 | ⟨g, cap, cur, hv, hg, hh, r⟩
  · exact Or.inl h2
  · refine Or.inr ⟨g, cap, cur, hv, hg, ?_, r⟩
    rw [hb.block g (by
      rcases Nat.lt_or_ge g w.heap.size with h' | h'
      · exact h'
      · rw [Array.getElem?_eq_none h'] at hh; cases hh)]
    exact hh

theorem Tryd.infoS : (Tryd.prog.info? 9).map (fun i => (i.zero, i.size, i.bytes)) = some (some (.string ByteArray.empty), 1, 16) := by kernel_rfl

/-- What the variables of Trail hold ahead of a round: what was done so far, what is left of the chain. -/
structure TrailAt (w : World) (n : Int) (l r : List (ByteArray × ByteArray)) (v d : Value) (wr : World) : Prop where
  parts : ∃ p, l = p ++ r ∧ wr.ownsRow (w.heap.size + 1) 9 1 d p.length (p.map fun x => .string x.1)
  chain : Chain w n r v
  below : Below w.heap.size w wr
  cell : ∃ x, wr.cell? ⟨w.heap.size, 0, none⟩ = some x
  cold : wr.frozen? ⟨w.heap.size, 0, none⟩ = false
end Go.Proofs.YtjfjfgahfciflaaDoor
