/-
  Contracts of the landed disk's Crash, of a disk and of nil. Conditions: as each says.
-/
import Derived.Test.YtpimclhdimcioaaDoorS5Flush
import Derived.Laws.BitsLemmas
namespace Go.Proofs.YtpimclhdimcioaaDoor
open Go.RowKit Go.Maps

theorem wraps_u64 (n : Int) (h₀ : 0 ≤ n) (h₁ : n < 2 ^ 64) : IntKind.u64.wrap n = n := by rw [IntKind.wrap_u64]; omega
theorem u64_and1 (x : Int) (h₀ : 0 ≤ x) (h₁ : x ≤ 18446744073709551615) : bits .and .u64 x 1 = x % 2 := bits_mask .u64 64 (by decide) wraps_u64 1 (by decide) x h₀ (by omega)
theorem bit_test (m k : Int) (h0 : 0 ≤ m) (h1 : m ≤ 18446744073709551615) : (bits .and .u64 (m / 2 ^ k.toNat) 1 == 1) = bitOn m k := by
  have hp : (0 : Int) < 2 ^ k.toNat := Int.pow_pos (by decide)
  rw [u64_and1 _ (Int.ediv_nonneg h0 (Int.le_of_lt hp)) (Int.le_trans (Int.ediv_le_self _ h0) h1)]
  rfl
/-- What a crash leaves at a sector, where nothing may be firm yet. -/
def crsO (m : Int) (l : List WrL) (o : Option PgL) : Option PgL := l.foldl (fun o y => if bitOn m y.1 then some y.2 else o) o
theorem crsO_snoc (m : Int) (l : List WrL) (x : WrL) (o : Option PgL) : crsO m (l ++ [x]) o = if bitOn m x.1 then some x.2 else crsO m l o := by simp [crsO]
theorem crsO_getD (m : Int) (z : PgL) : ∀ (l : List WrL) (o : Option PgL), (crsO m l o).getD z = crs m l (o.getD z)
  | [], _ => rfl
  | x :: r, o => by
    show (crsO m r (if bitOn m x.1 then some x.2 else o)).getD z = crs m r (if bitOn m x.1 then x.2 else o.getD z)
    rw [crsO_getD m z r]
    split <;> rfl
theorem crsO_len (m : Int) : ∀ (l : List WrL) (o : Option PgL), (∀ x ∈ l, x.2.length = 64) → (∀ p, o = some p → p.length = 64) → ∀ p, crsO m l o = some p → p.length = 64
  | [], _, _, ho, p, h => ho p h
  | x :: r, o, hl, ho, p, h => crsO_len m r (if bitOn m x.1 then some x.2 else o) (fun y hy => hl y (List.mem_cons_of_mem _ hy)) (fun q hq => by
      split at hq
      · injection hq with hq
        rw [← hq]
        exact hl x List.mem_cons_self
      · exact ho q hq) p h
attribute [local go_sem ↓] ldw_pg stw_pg ldw_wr stw_wr alw_wr alw_pg
attribute [local go_sem] isPgV_ptr pgAtV_ptr thereV_ptr setV_ptr cellsV_agg isWrV_ptr wrAtV_ptr thereW_ptr cellsV_wr
/-- What a crash has made firm so far. -/
structure CrSt (w : World) (D : DskV) (mf ms r : Nat) (ff : Int → Option PgL) (fs : Int → Option Value) (m : Int) (left : Int → Bool) (wx : World) : Prop where
  rg : RgOf Tryd.prog 3 wx ms r 2048 fs left
  firm : MapOf Tryd.prog 3 wx mf 2048 (fun i => (ffL (fun i => crsO m (sftOf D.soft i) (ff i)) ff fs left i).map pgv)
  fr : Fr (· = mf) w wx
/-- The same amid a sector's writes. -/
structure CrIn (w : World) (D : DskV) (mf ms r : Nat) (ff : Int → Option PgL) (fs : Int → Option Value) (m : Int) (left : Int → Bool) (x : Int) (k rl : Nat) (wx : World) : Prop where
  rg : RgOf Tryd.prog 3 wx ms r 2048 fs (fun z => left z && !(z == x))
  firm : MapOf Tryd.prog 3 wx mf 2048 (fun z => (if z = x then crsO m ((sftOf D.soft x).take k) (ff x) else ffL (fun i => crsO m (sftOf D.soft i) (ff i)) ff fs left z).map pgv)
  fr : Fr (· = mf) w wx
  rl : wx.rangeLeft ms r = rl
theorem CrIn.grow {w wx w2 : World} {D : DskV} {mf ms r : Nat} {ff : Int → Option PgL} {fs : Int → Option Value} {m : Int} {left : Int → Bool} {x : Int} {k k' rl : Nat} (h : CrIn w D mf ms r ff fs m left x k rl wx) (hb : Below wx.heap.size wx w2) (hk : crsO m ((sftOf D.soft x).take k') (ff x) = crsO m ((sftOf D.soft x).take k) (ff x)) : CrIn w D mf ms r ff fs m left x k' rl w2 := by
  have h1 := h.rg.of_blocks (w' := w2) (hb.block ms h.rg.map.lt) (hb.block r h.rg.lt)
  exact ⟨h1.1, by rw [hk]; exact h.firm.below hb h.firm.lt, h.fr.trans (Fr.of_below hb) fun j hj => .inl hj, h1.2.trans h.rl⟩
theorem CrIn.put {w w1 w2 : World} {F : Nat → Prop} {b : Nat} {D : DskV} {mf ms r nf ns : Nat} {ff : Int → Option PgL} {fs : Int → Option Value} (h : DskIn w F b D mf ms nf ns ff fs) {m : Int} {left : Int → Bool} (hr : w.heap.size ≤ r) {x : Int} {v : Value} (hx : fs x = some v) {k rl : Nat} {y : WrL} (hy : (sftOf D.soft x)[k]? = some y) (hbit : bitOn m y.1 = true)
    (hc : CrIn w D mf ms r ff fs m left x k rl w1) (hb : Below w1.heap.size w1 w2) :
    ∃ w3, (Instr.mapUpdate 58 (.map (some mf)) (.int .i64 x) (.agg (cellsB y.2).toArray)).run Tryd.prog w2 = .ok () w3 ∧ Hid (CrIn w D mf ms r ff fs m left x (k + 1) rl w3) ∧ w3.cell? ⟨b, 3, none⟩ = some (.map (some mf)) ∧ w2.grownBy w3 (some mf) := by
  have hxi := h.softIn x (by rw [hx]; exact Option.some_ne_none _)
  have hc2 := hc.grow hb rfl
  obtain ⟨w3, h1, h2, h3⟩ := firm_put h.ok hc2.firm (fun j hj => by
    by_cases e : j = x
    · rw [e]; exact hxi
    · have hj2 : ffL (fun i => crsO m (sftOf D.soft i) (ff i)) ff fs left j ≠ none := fun e2 => hj (by rw [if_neg e, e2]; rfl)
      unfold ffL at hj2
      split at hj2
      · rename_i hc
        exact h.softIn j (fun e => by rw [e] at hc; simp at hc)
      · exact h.firmIn j hj2) hxi.1 hxi.2 (pgv y.2)
  have hfr3 : Fr (· = mf) w w3 := hc2.fr.trans (Fr.of_grown (F := (· = mf)) h3 fun k hk => (Option.some.inj hk).symm) fun j hj => .inl hj
  have hb3 := hc2.rg.of_blocks (w' := w3) (h3.block ms hc2.rg.map.lt (fun e => h.ne (Option.some.inj e).symm)) (h3.block r hc2.rg.lt (fun e => by
    have e := Option.some.inj e
    have := h.lt mf h.inf
    omega))
  refine ⟨w3, h1, ⟨hb3.1, ?_, hfr3, hb3.2.trans hc2.rl⟩, hfr3.cell h.c3 h.ne_bf, h3⟩
  have e : (fun z => if z = x then some (pgv y.2) else (if z = x then crsO m ((sftOf D.soft x).take k) (ff x) else ffL (fun i => crsO m (sftOf D.soft i) (ff i)) ff fs left z).map pgv) = fun z => (if z = x then crsO m ((sftOf D.soft x).take (k + 1)) (ff x) else ffL (fun i => crsO m (sftOf D.soft i) (ff i)) ff fs left z).map pgv := by
    funext z
    by_cases ez : z = x
    · rw [if_pos ez, if_pos ez, List.take_add_one, hy]
      show _ = (crsO m ((sftOf D.soft x).take k ++ [y]) (ff x)).map pgv
      rw [crsO_snoc, if_pos hbit]
      rfl
    · rw [if_neg ez, if_neg ez, if_neg ez]
  rw [← e]
  exact h2

end Go.Proofs.YtpimclhdimcioaaDoor
