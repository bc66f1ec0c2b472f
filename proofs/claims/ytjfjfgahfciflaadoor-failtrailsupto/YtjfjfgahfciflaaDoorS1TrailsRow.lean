/-
  FailTrails, the second form: for every number, list of texts, op and path the law returns true, and the arguments read as they did. Condition: the arguments hold together at most 1048576 values and letters.
-/
import Derived.Test.YtjfjfgahfciflaaDoorS1Base
import Derived.Test.YtjfjfgahfciflaaDoorS1Trails
import Derived.SliceStrings
import Derived.Test.YtjfjfgahfciflaaDoorBulk
namespace Go.Proofs.YtjfjfgahfciflaaDoor.failTrails
open Go.ChangeShapes Go.WideShapes Go.ChangeAt Go.RowKit
open Go.ChangeMaps (open_string)

theorem cellsS : Tryd.prog.cellsOf 9 = 1 := by kernel_rfl

theorem contract (H : Type) (enc : TypeId × Value → H) (W : World) (base : Nat) (args : Array Value) (ds gs : List (DataW H)) (before : List MemPlace)
    (hval : ∀ (j : Nat) t v, Tryd.f5.params[j]? = some t → args[j]? = some v → Value.okWide Tryd.prog W .any base t v)
    (hW : DataW.Whole enc Tryd.prog Tryd.f5.params.toList Rows.failTrailsSpec.vars false W args.toList ds gs before) (hL : EtLaid W) (hk : Rows.uptoBulkAll (ds ++ gs) ≤ 1048576) :
    Calls Tryd.prog 5 args W fun e W' => ∃ v, e = .returned v ∧ Rows.failTrailsSpec.post enc Tryd.prog Tryd.f5 false true false false W args v W' := by
  refine law_calls (tB := 4) laidOut rfl Tryd.underlying4 rfl (types_ok (by kernel_rfl)) ?_ hW ?_
  · rw [Tryd.params5]
    intro ds h
    match ds, h with
    | [_, _, _, _], _ => rfl
  obtain ⟨p, q, hA0, hV, rfl, hfz, hnd⟩ := hW
  have hA : DataW.TrodAll enc Tryd.prog W 0 (fun _ => true) true Tryd.f5.params.toList args.toList ds p := hA0
  rw [Tryd.params5] at hA hval
  obtain ⟨v0, vs0, d0, ds0, p0, q0, hargs, rfl, rfl, h0, r0⟩ := trodAll_cons hA
  obtain ⟨v1, vs1, d1, ds1, p1, q1, rfl, rfl, rfl, h1, r1⟩ := trodAll_cons r0
  obtain ⟨v2, vs2, d2, ds2, p2, q2, rfl, rfl, rfl, h2, r2⟩ := trodAll_cons r1
  obtain ⟨v3, vs3, d3, ds3, p3, q3, rfl, rfl, rfl, h3, r3⟩ := trodAll_cons r2
  obtain ⟨rfl, rfl, rfl⟩ := trodAll_nil r3
  obtain rfl : args = #[v0, v1, v2, v3] := by cases args; simp_all
  obtain ⟨n, rfl, rfl, rfl, w0⟩ := open_int Tryd.underlying3 (hval 0 3 v0 rfl rfl) h0
  obtain ⟨o, rfl, rfl, rfl, ho⟩ := open_string Tryd.underlying9 (hval 2 9 v2 rfl rfl) h2
  obtain ⟨p, rfl, rfl, rfl, hp⟩ := open_string Tryd.underlying9 (hval 3 9 v3 rfl rfl) h3
  obtain ⟨a1, len, cap, rfl⟩ := okWide_slice Tryd.underlying22 (hval 1 22 v1 rfl rfl)
  obtain ⟨fuel, hf⟩ := h1
  have ho2 : o.size ≤ 1048576 := by
    have := bulk_le (d := DataW.lit (H := H) (.string o.data.toList)) (l := _) (by simp : _ ∈ ([.lit (.int .i64 n), d1, .lit (.string o.data.toList), .lit (.string p.data.toList)] ++ gs))
    rw [bulk_string, Array.length_toList, ByteArray.size_data] at this
    omega
  have hp2 : p.size ≤ 1048576 := by
    have := bulk_le (d := DataW.lit (H := H) (.string p.data.toList)) (l := _) (by simp : _ ∈ ([.lit (.int .i64 n), d1, .lit (.string o.data.toList), .lit (.string p.data.toList)] ++ gs))
    rw [bulk_string, Array.length_toList, ByteArray.size_data] at this
    omega
  rcases open_strings Tryd.underlying22 Tryd.underlying9 cellsS hf with ⟨hcs, _⟩ | ⟨a, len', cap', ss, hcs, _, hl, hm, hz, hx, hcell, _⟩
  · simp [Value.cells] at hcs
    obtain ⟨rfl, rfl, rfl⟩ := hcs
    exact trails_short n none 0 0 o p (fun _ => ByteArray.empty) W hL (fun i hi => absurd hi (Nat.not_lt_zero i)) (by omega) (fun i hi => absurd hi (Nat.not_lt_zero i)) ho2 hp2
  · simp [Value.cells] at hcs
    obtain ⟨rfl, rfl, rfl⟩ := hcs
    simp at hz
    have hd1 : d1 = .slice (strs (ss.take len)) (strs (ss.drop len)) := (Prod.mk.injEq _ _ _ _ ▸ hx).1
    by_cases h40 : len ≤ 40
    · exact trails_short n (some a) len cap o p _ W hL (Strs.of_cells hcell (by omega)) h40 (bulk_strs hk (by rw [hd1]; simp)) ho2 hp2
    · exact trails_long n (some a) len cap o p W hL (by omega) (by omega)

theorem reads (os : Os) {H : Type} (enc : TypeId × Value → H) : ∃ places, DataW.whole enc Tryd.prog ((laidWorld os).forCall (fun _ _ => 0) ⟨#[], #[.int .i64 0, .slice none 0 0, .string ByteArray.empty, .string ByteArray.empty], []⟩).memory Tryd.f5.params.toList Rows.failTrailsSpec.vars false #[Value.int .i64 0, .slice none 0 0, .string ByteArray.empty, .string ByteArray.empty].toList 8 = some ([.lit (.int .i64 0), .nil, .lit (.string []), .lit (.string [])], [], places) :=
  ⟨[], by kernel_rfl⟩

set_option maxRecDepth 100000 in
theorem lifted (os : Os) (started : os.Started) (H : Type) (enc : TypeId × Value → H) (F : Stop.Interp) :
    ReturnsInHanded {} Tryd.checked os 5 .any ((Rows.OpenSpec.upto Rows.failTrailsSpec).preRow enc Tryd.prog Tryd.f5 Rows.failTrailsUptoRow.domain false Rows.failTrailsUptoRow.laid) (((Rows.OpenSpec.upto Rows.failTrailsSpec).at F).post enc Tryd.prog Tryd.f5 false true false false) := by
  obtain ⟨places, hx⟩ := reads os enc
  refine returnsInHanded_of_row (C := Tryd.checked) (s := Rows.OpenSpec.upto Rows.failTrailsSpec) own started (by kernel_rfl) Tryd.func5
    (witness_row_at (enc := enc) (C := Tryd.checked) false (laidWorld os) #[.int .i64 0, .slice none 0 0, .string ByteArray.empty, .string ByteArray.empty] rfl (by kernel_rfl) (by kernel_rfl) (by kernel_rfl)
      (OpenSpec.preRow_of_cond 8 hx (by kernel_rfl) (fun k hk => by cases hk; kernel_rfl) (by kernel_rfl) (laidWorld_met os _))) ?_
  intro W base args ds gs before hval hW _ hcond _ hL _ _
  exact contract H enc W base args ds gs before hval hW (etLaid_of hL) (bulk_bound (hcond _ rfl))

theorem said : Rows.FailTrailsUptoSaid :=
  OpenClaim.holds_of_cond 5 Tryd.f5 rfl rfl rfl rfl rfl rfl rfl ⟨rfl, rfl, rfl, rfl, rfl⟩ rfl rfl rfl rfl rfl (by kernel_rfl) Tryd.func5 (by kernel_rfl)
    (of_decide_eq_true (by kernel_rfl)) (by unfold Func.isWrapper; rw [if_neg (of_decide_eq_false (by kernel_rfl))]; exact ⟨rfl, rfl⟩)
    (fun os started H enc _ F => by rw [OpenClaim.pre_eq_preRow]; exact lifted os started H enc F)

theorem plain (f : FuncId) (fn : Func) (hf : Tryd.pinned.checked.prog.funcNamed "shale/shalelaw01.FailTrails" = some f) (hfn : Tryd.pinned.checked.prog.funcs[f]? = some fn) :
    true = Tryd.pinned.checked.prog.looks [] ∧ ∀ (j : Nat) t, fn.params[j]? = some t → Tryd.pinned.checked.prog.wantsStandIn t = false := by
  obtain rfl : f = 5 := Option.some.inj ((show Tryd.prog.funcNamed "shale/shalelaw01.FailTrails" = some 5 by kernel_rfl).symm.trans hf) |>.symm
  obtain rfl : fn = Tryd.f5 := (Option.some.inj (Tryd.func5.symm.trans hfn)).symm
  exact ⟨by kernel_rfl, plain_ok (by kernel_rfl)⟩

theorem card : Rows.FailTrailsUptoCardSaid :=
  Claim7.holds_tied_plain_at .later [] _ _ _ _ said (fun _ h => by cases h) (by kernel_rfl) (fun _ h => by cases h) failTrailsUpto_row_tie rfl ⟨rfl, rfl⟩ (by kernel_rfl) rfl plain (by kernel_rfl)
end Go.Proofs.YtjfjfgahfciflaaDoor.failTrails
namespace Go.Proofs.YtjfjfgahfciflaaDoor
theorem failTrailsUpto_holds : Rows.FailTrailsUptoCardSaid := failTrails.card
#print axioms failTrailsUpto_holds
end Go.Proofs.YtjfjfgahfciflaaDoor
