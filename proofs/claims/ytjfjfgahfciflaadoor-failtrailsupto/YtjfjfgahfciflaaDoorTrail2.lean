/-
  The contract of Trail: what was done, of each wrapping, the outermost first. Conditions: the chain lies in memory; errorType holds error's type.
-/
import Derived.Test.YtjfjfgahfciflaaDoorTrail
namespace Go.Proofs.YtjfjfgahfciflaaDoor
open Go.RowKit Go.Extern.Stop Go.Stop Go.Extern

/-- What Trail answers. -/
def TrailPost (w : World) (l : List (ByteArray × ByteArray)) (e : Ending) (w' : World) : Prop :=
  ∃ d, e = .returned d ∧ w'.ownsRow (w.heap.size + 1) 9 1 d l.length (l.map fun x => .string x.1) ∧ Below w.heap.size w w'

/-- What the world is behind errors.As in a round. -/
structure TrailMid (w : World) (n : Int) (b : Nat) (x : ByteArray × ByteArray) (v' : Value) (d : Value) (p r : List (ByteArray × ByteArray)) (w2 : World) : Prop where
  cell : w2.cell? ⟨w.heap.size, 0, none⟩ = some (.pointer (some ⟨b, 0, none⟩))
  cold : w2.frozen? ⟨w.heap.size, 0, none⟩ = false
  op : w2.cell? ⟨b, 0, none⟩ = some (.string x.1)
  err : w2.cell? ⟨b, 0 + 1 + 1, none⟩ = some v'
  own : w2.ownsRow (w.heap.size + 1) 9 1 d p.length (p.map fun x => .string x.1)
  below : Below w.heap.size w w2
  size : w.heap.size < w2.heap.size
  old : b < w.heap.size
theorem trail_mid {w wr w1 : World} {n : Int} {l r p : List (ByteArray × ByteArray)} {x : ByteArray × ByteArray} {b : Nat} {v' d : Value} (h : TrailAt w n l (x :: r) (.iface 41 (.pointer (some ⟨b, 0, none⟩))) d wr)
    (hown : wr.ownsRow (w.heap.size + 1) 9 1 d p.length (p.map fun x => .string x.1)) (h2 : b < w.heap.size) (h3 : w.cell? ⟨b, 0, none⟩ = some (.string x.1)) (h5 : w.cell? ⟨b, 0 + 1 + 1, none⟩ = some v') (hb : Below wr.heap.size wr w1) :
    TrailMid w n b x v' d p r (w1.setCell ⟨w.heap.size, 0, none⟩ (.pointer (some ⟨b, 0, none⟩))) := by
  obtain ⟨old, hold⟩ := h.cell
  have hlt := lt_of_cell hold
  have hB : Below w.heap.size w w1 := h.below.trans (hb.mono h.below.size)
  have hB2 : Below w.heap.size w (w1.setCell ⟨w.heap.size, 0, none⟩ (.pointer (some ⟨b, 0, none⟩))) := hB.setCell (Nat.le_refl _) _
  have hsz : w.heap.size < w1.heap.size := Nat.lt_of_lt_of_le hlt hb.size
  exact ⟨cell_set ((hb.cell hlt).trans hold) _, by rw [World.frozen?_setCell]; exact (hb.frozen hlt).trans h.cold, (hB2.cell (p := ⟨b, 0, none⟩) h2).trans h3, (hB2.cell (p := ⟨b, 0 + 1 + 1, none⟩) h2).trans h5,
    ownsRow_setCell_below (ownsRow_below hown hb) (by simp) _, hB2, by simpa [World.setCell] using hsz, h2⟩
theorem trail_next {w w2 w3 : World} {n : Int} {l r p : List (ByteArray × ByteArray)} {x : ByteArray × ByteArray} {b : Nat} {v' d d' : Value} (m : TrailMid w n b x v' d p r w2) (hp : l = p ++ x :: r) (hc : Chain w n r v')
    (own : w3.ownsRow (w.heap.size + 1) 9 1 d' (p.length + 1) ((p.map fun x => .string x.1) ++ [.string x.1])) (hg : (w2.alloc (.cells #[.string x.1] 9)).grownBy w3 d.ownBlock) : TrailAt w n l r v' d' w3 := by
  have hd : ∀ k, d.ownBlock = some k → w.heap.size + 1 ≤ k := by
    intro k hk
    rcases m.own.2 with ⟨rfl, _⟩ | ⟨g, cap, cur, rfl, hg, _⟩
    · simp [Value.ownBlock] at hk
    · simp [Value.ownBlock] at hk; omega
  have hsz := m.size
  have hB : Below w.heap.size w w3 := (m.below.alloc (by omega) _).grown hg (by simp; omega) (fun k hk => by have := hd k hk; omega)
  have hB1 : Below (w.heap.size + 1) (w2.alloc (.cells #[.string x.1] 9)) w3 := (Below.refl _ _).grown hg (by simp; omega) hd
  refine ⟨⟨p ++ [x], by rw [hp]; simp, by simpa using own⟩, hc, hB, ⟨_, (hB1.cell (p := ⟨w.heap.size, 0, none⟩) (by simp)).trans ((World.cell?_alloc_lt _ _ ⟨w.heap.size, 0, none⟩ hsz).trans m.cell)⟩, ?_⟩
  exact (hB1.frozen (p := ⟨w.heap.size, 0, none⟩) (by simp)).trans ((World.frozen?_alloc_old _ _ ⟨w.heap.size, 0, none⟩ (Nat.ne_of_lt hsz)).trans m.cold)
theorem trail_err {w w2 w3 : World} {n : Int} {r p : List (ByteArray × ByteArray)} {x : ByteArray × ByteArray} {b : Nat} {v' d : Value} (m : TrailMid w n b x v' d p r w2) (hg : (w2.alloc (.cells #[.string x.1] 9)).grownBy w3 d.ownBlock) :
    w3.cell? ⟨w.heap.size, 0, none⟩ = some (.pointer (some ⟨b, 0, none⟩)) ∧ w3.cell? ⟨b, 0 + 1 + 1, none⟩ = some v' := by
  have hd : ∀ k, d.ownBlock = some k → w.heap.size + 1 ≤ k := by
    intro k hk
    rcases m.own.2 with ⟨rfl, _⟩ | ⟨g, cap, cur, rfl, hg, _⟩
    · simp [Value.ownBlock] at hk
    · simp [Value.ownBlock] at hk; omega
  have hsz := m.size
  have hB1 : Below (w.heap.size + 1) (w2.alloc (.cells #[.string x.1] 9)) w3 := (Below.refl _ _).grown hg (by simp; omega) hd
  have hb := m.old
  exact ⟨(hB1.cell (p := ⟨w.heap.size, 0, none⟩) (by simp)).trans ((World.cell?_alloc_lt _ _ ⟨w.heap.size, 0, none⟩ hsz).trans m.cell), (hB1.cell (p := ⟨b, 0 + 1 + 1, none⟩) (by simp; omega)).trans ((World.cell?_alloc_lt _ _ ⟨b, 0 + 1 + 1, none⟩ (by simp; omega)).trans m.err)⟩

set_option maxHeartbeats 2000000 in
theorem trail_any (l : List (ByteArray × ByteArray)) (n : Int) (v : Value) (w : World) (hch : Chain w n l v) (hg : EtLaid w) (hlen : l.length ≤ 1000000) :
    Calls Tryd.prog 12 #[v] w (TrailPost w l) := by
  have HG := Lib.hid hg
  have H0 : Hid (TrailAt w n l l v (.slice none 0 0) (w.alloc (.cells #[.pointer none] 41))) := ⟨⟨[], rfl, World.ownsRow_nil _ _ _ _⟩, hch, (Below.refl _ _).alloc (Nat.le_refl _) _, ⟨.pointer none, by simp⟩, by simp⟩
  obtain ⟨i0, hi, hz0, hz1, hz2⟩ := info_parts Tryd.infoS
  have HI := Lib.hid hi
  have HZ0 := Lib.hid hz0
  have HZ1 := Lib.hid hz1
  have HZ2 := Lib.hid hz2
  clear hch hg hi hz0 hz1 hz2
  go_enter Tryd.func12, Tryd.ntmps12
  go_wp2
  go_loopg [0, 3] l.length (fun k e d wr => ∃ r, Hid (r.length = k) ∧ Hid (TrailAt w n l r e d wr))
  case atStart => exact ⟨l, rfl, H0.out⟩
  case round =>
    clear H0
    obtain ⟨r, HK, HR⟩ := hrel
    cases r with
    | nil =>
      obtain rfl : _ = Value.iface 29 (.int .i64 n) := HR.out.chain
      go_wp2_with fail
      refine (asFa_miss_below n _ _ (HG.out.below HG.out.lt HR.out.below)).mono ?_
      rintro e w1 ⟨rfl, hb⟩
      have HB := Lib.hid hb
      clear hb
      go_wp2
      go_ret
      obtain ⟨p, hp, hown⟩ := HR.out.parts
      rw [List.append_nil] at hp
      subst hp
      exact ⟨_, rfl, ownsRow_below hown HB.out, HR.out.below.trans (HB.out.mono HR.out.below.size)⟩
    | cons x r =>
      obtain ⟨b, v', hv, h2, h3, h4, h5, h6⟩ := HR.out.chain
      subst hv
      obtain ⟨old, hold⟩ := HR.out.cell
      go_wp2_with fail
      refine (asFa_hit_below ⟨b, 0, none⟩ _ old _ (HG.out.below HG.out.lt HR.out.below) hold HR.out.cold).mono ?_
      rintro e w2 ⟨rfl, w1, hb, hw⟩
      obtain ⟨p, hp, hown⟩ := HR.out.parts
      have HM := Lib.hid (trail_mid HR.out hown h2 h3 h5 hb)
      rw [hw] at HM
      have HP := Lib.hid hp
      have HC := Lib.hid h6
      have hpl : p.length + 1 ≤ 1000000 := by have := congrArg List.length hp; simp at this; omega
      clear hw hb hown hp h2 h3 h4 h5 h6 HR hold
      have q1 := HM.out.cell
      have q2 := HM.out.op
      go_wp2_with (at_builtin; refine wpList_append_own _ rfl _ _ 22 rfl (w.heap.size + 1) 9 i0 (.string ByteArray.empty) 1 16 Tryd.underlying22 HI.out HZ0.out HZ1.out HZ2.out rfl (by decide) _ _ _ rfl (HM.out.own.alloc _) ⟨w2.heap.size, 0, none⟩ 1 1 [.string x.1] rfl rfl ?c1 ?c2 ?c3 ?c4 ?c5 ?_)
      case c1 =>
        intro j u hj
        match j, hj with
        | 0, hj => simp at hj; subst hj; simp [Addr.add]
      case c2 => intro u hu; simp at hu; subst hu; rfl
      case c3 => unfold maxLen; omega
      case c4 => omega
      case c5 => have := HM.out.size; simp; omega
      · intro d' w3 hown' hgrow _
        have HN := Lib.hid (trail_next HM.out HP.out HC.out hown' hgrow)
        obtain ⟨q3, q4⟩ := trail_err HM.out hgrow
        clear hown' hgrow HM q1 q2
        go_wp2
        go_roundg r.length
        case measure => have := HK.out; simp at this; omega
        case rel => exact ⟨r, rfl, HN.out⟩
end Go.Proofs.YtjfjfgahfciflaaDoor
