/-
  Contracts of package look's closure that tells a wrong layer, of slices.ContainsFunc with it, and of right: whether a stack can be looked at. Conditions: a stack in memory, of at most 100 layers, each of at most 1000 entries whose texts have at most 100000 bytes.
  The contract of package look's lying: what lies at a path, name by name from the root on, or the error. Conditions: a stack in memory, of at most 100 layers, each of at most 1000 entries whose texts have at most 100000 bytes; the text has at most 100000 bytes.
  Package look's At, Dir and Shows answer as Look12, Dir12 and Shows12 say. No condition beyond theirs.
-/
import Derived.Test.YtlncdmdffpaojaaGreatDoorPd
import Derived.Test.YtlncdmdffpaojaaGreatDoorPh
import Derived.Deep.LoopGhost
import Derived.Test.YtlncdmdffpaojaaGreatDoorS3Path2
import Derived.Test.YtlncdmdffpaojaaGreatDoorAtEr
import Derived.Test.YtlncdmdffpaojaaGreatDoorS9Par
import Derived.Laws.ResultCell
import Derived.Deep.RegionHeld3
namespace Go.Proofs.YtlncdmdffpaojaaGreatDoor
open Go.RowKit

/-- A layer that isn't right. -/
def bad12 (l : List Ent) : Bool := !decide (RightL l)
set_option maxRecDepth 10000 in
set_option maxHeartbeats 1000000 in
theorem wrong12 (l : List Ent) (a : Option Addr) (cap : Nat) (w : World) (h : Ents w a cap l) (hs : Sm l) : Calls Tryz.prog 72 #[.slice a l.length cap] w fun e w' => e = .returned (.bool (bad12 l)) ∧ Below w.heap.size w w' := by
  have HC := Lib.hid (right9 l a cap w h hs)
  unfold bad12
  obtain ⟨r, hr⟩ : ∃ r, decide (RightL l) = r := ⟨_, rfl⟩
  rw [hr] at HC ⊢
  clear h hs hr
  go_enter Tryz.func72, Tryz.ntmps72
  go_wp2_with fail
  refine (HC.out).mono ?_
  rintro e w1 ⟨rfl, hb⟩
  have HB := Lib.hid hb
  clear hb
  go_wp2
  go_ret
  exact ⟨rfl, HB.out⟩
set_option maxRecDepth 10000 in
set_option maxHeartbeats 1000000 in
theorem index12 (S : List (List Ent)) (a : Option Addr) (cap : Nat) (w : World) (h : Stk w a cap S) (hl : S.length ≤ 100) (hs : ∀ l ∈ S, Sm l) :
    Calls Tryz.prog 101 #[.slice a S.length cap, .func (.func 72) #[] #[]] w fun e w' => ∃ i : Int, e = .returned (.int .i64 i) ∧ decide (0 ≤ i) = S.any bad12 ∧ Below w.heap.size w w' := by
  have HE := Lib.hid h
  have HS := Lib.hid hs
  have HL := Lib.hid hl
  obtain ⟨r, hr⟩ : ∃ r, S.any bad12 = r := ⟨_, rfl⟩
  have HR := Lib.hid hr
  rw [hr]
  clear h hs hr hl
  go_enter Tryz.func101, Tryz.ntmps101
  go_wp2
  go_loopg [8] S.length (fun g i wx => ∃ k : Nat, i = .int .i64 (k : Int) ∧ k + g = S.length ∧ Hid (Below w.heap.size w wx) ∧ Hid ((S.take k).any bad12 = false))
  case atStart => exact ⟨0, rfl, by omega, Below.refl _ _, by simp [Hid]⟩
  case round =>
    obtain ⟨k, rfl, hk, HB, HN⟩ := hrel
    have hw : IntKind.i64.wrap ((k : Int) + 1) = (k : Int) + 1 := IntWalk.i64_in _ (by have := HL.out; omega)
    by_cases hlt : k < S.length
    · have hlt' : (k : Int) < (S.length : Int) := by omega
      obtain ⟨b, off, a', cap', rfl, hc, hE⟩ := HE.out.at HB.out hlt
      have HCX := Lib.hid (wrong12 S[k] a' cap' wr hE (HS.out _ (List.getElem_mem hlt)))
      have HT := Lib.hid (take_get S k hlt)
      have HM := Lib.hid (List.getElem_mem hlt)
      obtain ⟨x, hx⟩ : ∃ x, S[k] = x := ⟨_, rfl⟩
      rw [hx] at hc HCX HT HM
      clear hx hE
      cases hu : bad12 x with
      | true =>
        rw [hu] at HCX
        have HV := Lib.hid (show r = true by rw [← HR.out, List.any_eq_true]; exact ⟨x, HM.out, hu⟩)
        clear hu
        go_wp2_with fail
        refine (HCX.out).mono ?_
        rintro e w1 ⟨rfl, hb⟩
        have HB1 := Lib.hid (HB.out.trans (hb.mono HB.out.size))
        clear hb
        go_wp2
        go_ret
        exact ⟨_, rfl, by rw [HV.out]; exact decide_eq_true (by omega), HB1.out⟩
      | false =>
        rw [hu] at HCX
        have HN1 := Lib.hid (show (S.take (k + 1)).any bad12 = false by rw [HT.out, List.any_append, HN.out]; simp [hu])
        clear hu
        go_wp2_with fail
        refine (HCX.out).mono ?_
        rintro e w1 ⟨rfl, hb⟩
        have HB1 := Lib.hid (HB.out.trans (hb.mono HB.out.size))
        clear hb
        go_wp2
        go_roundg (gk - 1)
        case measure => omega
        case rel => exact ⟨k + 1, by simp, by omega, HB1.out, HN1.out⟩
    · have hlt' : ¬ (k : Int) < (S.length : Int) := by omega
      have HV := Lib.hid (show r = false by
        rw [← HR.out]
        have := HN.out
        rwa [List.take_of_length_le (by omega)] at this)
      go_wp2
      go_ret
      exact ⟨_, rfl, by rw [HV.out]; exact decide_eq_false (by omega), HB.out⟩
set_option maxRecDepth 10000 in
set_option maxHeartbeats 1000000 in
theorem contains12 (S : List (List Ent)) (a : Option Addr) (cap : Nat) (w : World) (h : Stk w a cap S) (hl : S.length ≤ 100) (hs : ∀ l ∈ S, Sm l) :
    Calls Tryz.prog 73 #[.slice a S.length cap, .func (.func 72) #[] #[]] w fun e w' => e = .returned (.bool (S.any bad12)) ∧ Below w.heap.size w w' := by
  have HC := Lib.hid (index12 S a cap w h hl hs)
  obtain ⟨r, hr⟩ : ∃ r, S.any bad12 = r := ⟨_, rfl⟩
  rw [hr] at HC ⊢
  clear h hs hl hr
  go_enter Tryz.func73, Tryz.ntmps73
  go_wp2_with fail
  refine (HC.out).mono ?_
  rintro e w1 ⟨i, rfl, hi, hb⟩
  have HB := Lib.hid hb
  have HI := Lib.hid hi
  clear hb hi
  go_wp2
  go_ret
  exact ⟨by rw [← HI.out]; rfl, HB.out⟩
theorem any_bad12 (S : List (List Ent)) (h : S.length ≤ 9) : (!S.any bad12) = decide (LkOK S) := by
  rw [Bool.eq_iff_iff, Bool.not_eq_true', decide_eq_true_iff, List.any_eq_false]
  unfold LkOK bad12
  constructor
  · intro h1
    refine ⟨h, fun l hl => ?_⟩
    have := h1 l hl
    simpa using this
  · rintro ⟨_, h1⟩ l hl
    simpa using h1 l hl
set_option maxRecDepth 10000 in
set_option maxHeartbeats 1000000 in
theorem right12 (S : List (List Ent)) (a : Option Addr) (cap : Nat) (w : World) (h : Stk w a cap S) (hl : S.length ≤ 100) (hs : ∀ l ∈ S, Sm l) :
    Calls Tryz.prog 50 #[.slice a S.length cap] w fun e w' => e = .returned (.bool (decide (LkOK S))) ∧ Below w.heap.size w w' := by
  have HC := Lib.hid (contains12 S a cap w h hl hs)
  have hmf : ∀ (fn : Fn) (first cap : Array Value) (w : World), (Instr.makeFunc fn first cap).run Tryz.prog w = .ok (.func fn first cap) w := fun _ _ _ _ => rfl
  obtain ⟨r, hr⟩ : ∃ r, decide (LkOK S) = r := ⟨_, rfl⟩
  by_cases h9 : S.length ≤ 9
  · have g9 : (S.length : Int) ≤ 9 := by omega
    have HR := Lib.hid (any_bad12 S h9)
    rw [hr] at HR ⊢
    obtain ⟨q, hq⟩ : ∃ q, S.any bad12 = q := ⟨_, rfl⟩
    rw [hq] at HR HC
    clear h hs hl hr hq h9
    go_enter Tryz.func50, Tryz.ntmps50
    go_wp2_with fail
    refine (HC.out).mono ?_
    rintro e w1 ⟨rfl, hb⟩
    have HB := Lib.hid hb
    clear hb
    go_wp2
    go_ret
    exact ⟨by rw [← HR.out]; rfl, HB.out⟩
  · have g9 : ¬ (S.length : Int) ≤ 9 := by omega
    have HX := Lib.hid (show r = false by rw [← hr]; exact decide_eq_false fun h => h9 h.1)
    rw [hr]
    clear h hs hl hr h9 HC
    go_enter Tryz.func50, Tryz.ntmps50
    go_wp2
    go_ret
    exact ⟨by rw [HX.out]; rfl, Below.refl _ _⟩
end Go.Proofs.YtlncdmdffpaojaaGreatDoor

namespace Go.Proofs.YtlncdmdffpaojaaGreatDoor
open Go.RowKit

theorem fdSet_other12 {w : World} {b c : Nat} (h : ¬ c = b) (y : Ent × Nat) : (fdSet w b y).heap[c]? = w.heap[c]? :=
  (Below.heap_setCell _ _ _ _ h).trans ((Below.heap_setCell _ _ _ _ h).trans ((Below.heap_setCell _ _ _ _ h).trans (Below.heap_setCell _ _ _ _ h)))
theorem chain_of12 /- of a Fault, 94 -/ {w w' : World} {n : Int} {b : Nat} {x : Ent × Nat} (hO : FdAt w b x) (hs : ∀ c, ¬ c = b → w'.heap[c]? = w.heap[c]?) : ∀ {l : List (ByteArray × ByteArray)} {v : Value}, Chain w n l v → Chain w' n l v
  | [], _, h => by
    unfold Chain at h ⊢
    exact h
  | z :: r, _, ⟨c, v', h1, h2, h3, h4, h5, h6⟩ => by
    have hne : ¬ c = b := fun e => by
      subst e
      have := hO.c1
      rw [Nat.zero_add, this] at h4
      cases h4
    have hb := hs c hne
    have hz : c < w'.heap.size := by
      have : w'.heap[c]? = some w.heap[c] := hb.trans (Array.getElem?_eq_getElem h2)
      exact (Array.getElem?_eq_some_iff.1 this).1
    exact ⟨c, v', h1, hz, (World.cell?_of_block hb).trans h3, (World.cell?_of_block hb).trans h4, (World.cell?_of_block hb).trans h5, chain_of12 hO hs (l := r) h6⟩
theorem er_set12 {w : World} {n : Int} {v : Value} {b : Nat} {x : Ent × Nat} (h : Er w n v) (hO : FdAt w b x) (y : Ent × Nat) : Er (fdSet w b y) n v := h.imp_right fun ⟨h0, l, hl⟩ => ⟨h0, l, chain_of12 hO (fun _ hc => fdSet_other12 hc y) hl⟩
theorem fd_new12 (w : World) : ∃ V M, w.alloc (.cells #[.string ⟨#[]⟩, .int .i64 0, .string ⟨#[]⟩, .int .i64 0] 36) = V ∧ w.heap.size = M ∧ FdAt V M noF ∧ w.heap.size ≤ M ∧ Below w.heap.size w V :=
  ⟨_, _, rfl, rfl, heap_alloc_new _ _, Nat.le_refl _, (Below.refl _ _).alloc (Nat.le_refl _) _⟩
/-- A Found of nothing, stored. -/
abbrev fdZero (w : World) (b : Nat) : World := (((w.setCell ⟨b, 0, none⟩ (.string ⟨#[]⟩)).setCell ⟨b, 1, none⟩ (.int .i64 0)).setCell ⟨b, 2, none⟩ (.string ⟨#[]⟩)).setCell ⟨b, 3, none⟩ (.int .i64 0)
abbrev noFV : Value := .agg #[.string ⟨#[]⟩, .int .i64 0, .string ⟨#[]⟩, .int .i64 0]
theorem lv_fd0 {w : World} {b : Nat} {x : Ent × Nat} (h : FdAt w b x) : (loadVar 36 ⟨b, 0, none⟩).run Tryz.prog (fdZero w b) = .ok noFV (fdZero w b) := lv_fd (h.set noF)
theorem root_box12 (w : World) : ∃ V U M, w.alloc (.cells #[.string ⟨#[]⟩, .int .i64 0, .string ⟨#[]⟩, .int .i64 0] 36) = V ∧ w.heap.size = M ∧ (((V.setCell ⟨M, 0, none⟩ (.string ⟨#[47]⟩)).setCell ⟨M, 1, none⟩ (.int .i64 2)).setCell ⟨M, 2, none⟩ (.string ⟨#[]⟩)).setCell ⟨M, 3, none⟩ (.int .i64 0) = U ∧ FdAt V M noF ∧ FdAt U M (dP [47], 0) ∧ Below w.heap.size w U := fd_box w (dP [47], 0)
theorem at_bytes12 {s n : ByteArray} {x : List UInt8} (h1 : s.data.toList = x) (m : List UInt8) (h2 : n.data.toList = m) : (s ++ ((⟨#[47]⟩ : ByteArray) ++ n)).data.toList = x ++ 47 :: m := by
  rw [← h1, ← h2]
  simp
set_option maxRecDepth 10000 in
set_option maxHeartbeats 8000000 in
theorem lying12 (S : List (List Ent)) (a : Option Addr) (cap : Nat) (p : ByteArray) (w : World) (h : Stk w a cap S) (hl : S.length ≤ 100) (hs : ∀ l ∈ S, Sm l) (hp : p.size ≤ 100000) :
    Calls Tryz.prog 25 #[.slice a S.length cap, .string p] w fun e w' => ∃ er, e = .returned (.tuple #[fdnV (lkV S p.data.toList).2, er]) ∧ Er w' (lkV S p.data.toList).1 er ∧ Below w.heap.size w w' := by
  obtain ⟨V4, M4, hV4, hM4, h4, hl4, hb4⟩ := fd_new12 w
  have HE := Lib.hid (h.below hb4)
  have HRT := Lib.hid (right12 S a cap V4 HE.out hl hs)
  have HB4 := Lib.hid hb4
  have H4 := Lib.hid h4
  have HL4 := Lib.hid hl4
  have HP := Lib.hid hp
  obtain ⟨R, hR⟩ : ∃ R, lkV S p.data.toList = R := ⟨_, rfl⟩
  rw [hR]
  clear h hb4 h4 hl4 hl hs hp
  by_cases hS : LkOK S
  · rw [decide_eq_true hS] at HRT
    rw [lkV_ok hS] at hR
    have HR := Lib.hid hR
    have HA : Hid (∀ (q : ByteArray) (f : Nat) W, Below V4.heap.size V4 W → _) := fun q f W hW => asked12 S a cap q f W (HE.out.below hW) hS
    have HSZ := Lib.hid (show S.length ≤ 9 from hS.1)
    clear hS hR
    by_cases hi : isP p.data.toList
    · have HI := Lib.hid hi
      have HSP := Lib.hid (fun W => split_good p hi W)
      have HPL := Lib.hid (show (prts p).length = (pcs p.data.toList).length by simp [prts])
      have HP6 := Lib.hid (show (pcs p.data.toList).length ≤ 6 from hi.2.1)
      have HPG := Lib.hid (fun k (hk : k < (prts p).length) => show (prts p)[k] = bs ((pcs p.data.toList)[k]'(by rw [← HPL.out]; exact hk)) by simp [prts])
      obtain ⟨N, hN⟩ : ∃ N, prts p = N := ⟨_, rfl⟩
      simp only [hN] at HSP HPL HPG
      clear hi
      go_enter Tryz.func25, Tryz.ntmps25
      go_wp2_with fail
      refine (HRT.out).mono ?_
      rintro e w1 ⟨rfl, hb⟩
      have HB1 := Lib.hid hb
      clear hb hV4 hM4
      go_wp2_with fail
      refine (HSP.out _).mono ?_
      rintro e w2 ⟨aN, cN, rfl, hrow, hb⟩
      have HB2 := Lib.hid (HB1.out.trans (hb.mono HB1.out.size))
      have HN := Lib.hid hrow
      clear hrow hb
      obtain ⟨V8, U8, M8, hV8, hM8, hU8, hv, hu, hb8⟩ := root_box12 w2
      have v0 := hv.c0
      have v1 := hv.c1
      have v2 := hv.c2
      have v3 := hv.c3
      have vf0 := hv.f0
      have vf1 := hv.f1
      have vf2 := hv.f2
      have vf3 := hv.f3
      have H8 := Lib.hid hu
      have HM8 := Lib.hid (show w2.heap.size ≤ M8 by omega)
      have HB8 := Lib.hid hb8
      have H48 := Lib.hid ((H4.out.below HB2.out).below hb8)
      have HNE := Lib.hid (show M8 ≠ M4 by have := (H4.out.below HB2.out).lt; omega)
      have HV4 := Lib.hid (show V4.heap.size ≤ w2.heap.size from HB2.out.size)
      clear hv hu hb8
      go_wp2
      go_loopg [9, 30] N.length (fun g s i wx => ∃ (k : Nat) (q : ByteArray), s = .string q ∧ i = .int .i64 (k : Int) ∧ k + g = N.length ∧ Hid (q.data.toList = jn ((pcs p.data.toList).take k)) ∧ Hid ((atS S (pre12 p.data.toList k)).1 = 0) ∧ Hid (FdAt wx M8 (atS S (pre12 p.data.toList k)).2) ∧ Hid (FdAt wx M4 noF) ∧ Hid (Below w2.heap.size w2 wx))
      case atStart =>
        have e0 : atS S (pre12 p.data.toList 0) = (0, dP [47], 0) := by rw [pre_zero, atS_root]
        exact ⟨0, ⟨#[]⟩, rfl, rfl, by omega, by simp [Hid, jn], by rw [e0]; rfl, by rw [e0]; exact H8.out, H48.out, HB8.out⟩
      case round =>
        clear v0 v1 v2 v3 vf0 vf1 vf2 vf3 hV8 hM8 hU8 H8 H48 HB8
        obtain ⟨k, q, rfl, rfl, hk, HQ, HZ, HF, HF4, HB⟩ := hrel
        have hw : IntKind.i64.wrap ((k : Int) + 1) = (k : Int) + 1 := IntWalk.i64_in _ (by have := HP6.out; have := HPL.out; omega)
        by_cases hlt : k < N.length
        · have hlt' : (k : Int) < (N.length : Int) := by omega
          have HKP := Lib.hid (show k < (pcs p.data.toList).length by rw [← HPL.out]; exact hlt)
          obtain ⟨bn, on, rfl, hcn⟩ := Row.at9 HN.out HB.out hlt
          have HNK := Lib.hid (HPG.out k hlt)
          obtain ⟨n, hn⟩ : ∃ n, N[k] = n := ⟨_, rfl⟩
          rw [hn] at hcn HNK
          have HQN := Lib.hid (show (q ++ ((⟨#[47]⟩ : ByteArray) ++ n)).data.toList = pre12 p.data.toList (k + 1) by rw [pre_succ HKP.out, at_bytes12 HQ.out _ (by rw [HNK.out, bs_list])])
          have hsz : q.size + (1 + n.size) ≤ 54 := by
            have h1 := isP_len (pre_isP HI.out (k + 1)).1
            rw [← HQN.out, ← Lib.size_eq] at h1
            rw [ByteArray.size_append, ByteArray.size_append] at h1
            exact h1
          have z1 : ¬ 9223372036854775807 < 1 + n.size := by omega
          have z2 : ¬ 9223372036854775807 < q.size + (1 + n.size) := by omega
          clear hsz
          have HFL := Lib.hid (fun h => pre_file (S := S) HI.out HKP.out HZ.out h)
          have HNO := Lib.hid (fun h1 h2 => pre_none (S := S) HI.out HKP.out HZ.out h1 h2)
          have HSO := Lib.hid (fun h1 h2 => pre_some (S := S) HI.out HKP.out HZ.out h1 h2)
          obtain ⟨y, hy⟩ : ∃ y, (atS S (pre12 p.data.toList k)).2 = y := ⟨_, rfl⟩
          rw [hy] at HF
          simp only [hy] at HFL HNO HSO
          have r1 := HF.out.c1
          have r3 := HF.out.c3
          clear hn hy
          by_cases h2 : y.1.2.1 = 2
          · have g2 : (y.1.2.1 == 2) = true := beq_iff_eq.2 h2
            have HNO1 := Lib.hid (HNO.out h2)
            have HSO1 := Lib.hid (HSO.out h2)
            have HC := Lib.hid (HA.out (q ++ ((⟨#[47]⟩ : ByteArray) ++ n)) y.2 wr (HB2.out.trans (HB.out.mono HV4.out)))
            rw [HQN.out] at HC
            obtain ⟨z, hz⟩ : ∃ z, got12 (up12 S (pre12 p.data.toList (k + 1)) y.2 S.length) = z := ⟨_, rfl⟩
            rw [hz] at HC HNO1 HSO1
            clear hz h2 HFL HNO HSO
            go_wp2_with fail
            refine (HC.out).mono ?_
            rintro e w5 ⟨rfl, hb⟩
            have HF5 := Lib.hid (HF.out.below hb)
            have HF45 := Lib.hid (HF4.out.below hb)
            have HB5 := Lib.hid (HB.out.trans (hb.mono HB.out.size))
            obtain ⟨X, hX, h8x, h4x, hbx⟩ := fd_put HF5.out HF45.out HNE.out z HB5.out HM8.out
            clear hb r1 r3
            have y0 := HF5.out.c0
            have y1 := HF5.out.c1
            have y2 := HF5.out.c2
            have y3 := HF5.out.c3
            have t0 := HF5.out.f0
            have t1 := HF5.out.f1
            have t2 := HF5.out.f2
            have t3 := HF5.out.f3
            have H8X := Lib.hid h8x
            have H4X := Lib.hid h4x
            have HBX := Lib.hid hbx
            have x1 := H8X.out.c1
            clear h8x h4x hbx
            by_cases h0 : z.1.2.1 = 0
            · have g0 : (z.1.2.1 == 0) = true := beq_iff_eq.2 h0
              have HV := Lib.hid (show R = (3, noE, 0) by rw [← HR.out]; exact HNO1.out h0)
              have p0 := H4X.out.c0
              have p1 := H4X.out.c1
              have p2 := H4X.out.c2
              have p3 := H4X.out.c3
              have s0 := H4X.out.f0
              have s1 := H4X.out.f1
              have s2 := H4X.out.f2
              have s3 := H4X.out.f3
              clear h0
              go_wp2
              have hld := lv_fd0 H4X.out
              refine bodyPost_ret (v := .tuple #[noFV, .iface 51 (.int .i64 3)]) ?_ rfl ⟨.iface 51 (.int .i64 3), by rw [HV.out]; rfl, by rw [HV.out]; exact er_no11 _ _ (by decide), below_fd ((HB4.out.trans ((HB2.out.trans (HBX.out.mono HV4.out)).mono HB4.out.size))) HL4.out noF⟩
              rw [results_cell_tmp rfl]
              simp [asAddr, Result.andThen, hld]
            · have g0 : (z.1.2.1 == 0) = false := beq_eq_false_iff_ne.2 h0
              have HV := Lib.hid (HSO1.out h0)
              clear h0
              go_wp2
              go_roundg (gk - 1)
              case measure => omega
              case rel => exact ⟨k + 1, _, rfl, by simp, by omega, (show _ = _ from HQN.out.trans (pre_jn HKP.out)), by rw [HV.out]; rfl, by rw [HV.out]; exact H8X.out, H4X.out, HBX.out⟩
          · have g2 : (y.1.2.1 == 2) = false := beq_eq_false_iff_ne.2 h2
            have HV := Lib.hid (show R = (6, noE, 0) by rw [← HR.out]; exact HFL.out h2)
            have p0 := HF4.out.c0
            have p1 := HF4.out.c1
            have p2 := HF4.out.c2
            have p3 := HF4.out.c3
            have s0 := HF4.out.f0
            have s1 := HF4.out.f1
            have s2 := HF4.out.f2
            have s3 := HF4.out.f3
            clear h2 HFL HNO HSO
            go_wp2
            have hld := lv_fd0 HF4.out
            refine bodyPost_ret (v := .tuple #[noFV, .iface 51 (.int .i64 6)]) ?_ rfl ⟨.iface 51 (.int .i64 6), by rw [HV.out]; rfl, by rw [HV.out]; exact er_no11 _ _ (by decide), below_fd ((HB4.out.trans ((HB2.out.trans (HB.out.mono HV4.out)).mono HB4.out.size))) HL4.out noF⟩
            rw [results_cell_tmp rfl]
            simp [asAddr, Result.andThen, hld]
        · have hlt' : ¬ (k : Int) < (N.length : Int) := by omega
          have e1 : pre12 p.data.toList k = p.data.toList := by
            have : k = (pcs p.data.toList).length := by rw [← HPL.out]; omega
            rw [this, pre_full HI.out]
          rw [e1, HR.out] at HF HZ
          have r0 := HF.out.c0
          have r1 := HF.out.c1
          have r2 := HF.out.c2
          have r3 := HF.out.c3
          have p0 := HF4.out.c0
          have p1 := HF4.out.c1
          have p2 := HF4.out.c2
          have p3 := HF4.out.c3
          have s0 := HF4.out.f0
          have s1 := HF4.out.f1
          have s2 := HF4.out.f2
          have s3 := HF4.out.f3
          clear e1
          go_wp2
          have hld := lv_fd (HF4.out.set R.2)
          refine bodyPost_ret (v := .tuple #[fdnV R.2, .nilIface]) ?_ rfl ⟨.nilIface, rfl, .inl ⟨HZ.out, rfl⟩, below_fd ((HB4.out.trans ((HB2.out.trans (HB.out.mono HV4.out)).mono HB4.out.size))) HL4.out R.2⟩
          rw [results_cell_tmp rfl]
          simp [asAddr, Result.andThen, hld]
    · have HSP := Lib.hid (fun W => split_bad p (by have := HP.out; omega) hi W)
      have HV := Lib.hid (show R = (2, noE, 0) by rw [← HR.out]; exact atS_bad hi)
      clear hi
      go_enter Tryz.func25, Tryz.ntmps25
      go_wp2_with fail
      refine (HRT.out).mono ?_
      rintro e w1 ⟨rfl, hb⟩
      have HB1 := Lib.hid hb
      clear hb hV4 hM4
      go_wp2_with fail
      refine (HSP.out _).mono ?_
      rintro e w2 ⟨er, rfl, herr, hb⟩
      have HB2 := Lib.hid (HB1.out.trans (hb.mono HB1.out.size))
      obtain ⟨u, y, rfl⟩ := herr.iface
      have HER := Lib.hid herr
      have H42 := Lib.hid (H4.out.below HB2.out)
      have p0 := H42.out.c0
      have p1 := H42.out.c1
      have p2 := H42.out.c2
      have p3 := H42.out.c3
      have s0 := H42.out.f0
      have s1 := H42.out.f1
      have s2 := H42.out.f2
      have s3 := H42.out.f3
      clear herr hb
      go_wp2
      have hld := lv_fd0 H42.out
      refine bodyPost_ret (v := .tuple #[noFV, .iface u y]) ?_ rfl ⟨.iface u y, by rw [HV.out]; rfl, by rw [HV.out]; exact er_set12 (.inr ⟨by decide, HER.out⟩) H42.out noF, below_fd ((HB4.out.trans (HB2.out.mono HB4.out.size))) HL4.out noF⟩
      rw [results_cell_tmp rfl]
      simp [asAddr, Result.andThen, hld]
  · rw [decide_eq_false hS] at HRT
    have HV := Lib.hid (show R = (16, noE, 0) by rw [← hR]; exact lkV_bad hS _)
    clear hS hR
    go_enter Tryz.func25, Tryz.ntmps25
    go_wp2_with fail
    refine (HRT.out).mono ?_
    rintro e w1 ⟨rfl, hb⟩
    have HB1 := Lib.hid hb
    have H41 := Lib.hid (H4.out.below hb)
    have p0 := H41.out.c0
    have p1 := H41.out.c1
    have p2 := H41.out.c2
    have p3 := H41.out.c3
    have s0 := H41.out.f0
    have s1 := H41.out.f1
    have s2 := H41.out.f2
    have s3 := H41.out.f3
    clear hb
    go_wp2
    have hld := lv_fd0 H41.out
    refine bodyPost_ret (v := .tuple #[noFV, .iface 51 (.int .i64 16)]) ?_ rfl ⟨.iface 51 (.int .i64 16), by rw [HV.out]; rfl, by rw [HV.out]; exact er_no11 _ _ (by decide), below_fd ((HB4.out.trans (HB1.out.mono HB4.out.size))) HL4.out noF⟩
    rw [results_cell_tmp rfl]
    simp [asAddr, Result.andThen, hld]
end Go.Proofs.YtlncdmdffpaojaaGreatDoor

namespace Go.Proofs.YtlncdmdffpaojaaGreatDoor
open Go.RowKit

set_option maxRecDepth 10000 in
set_option maxHeartbeats 2000000 in
theorem dir12 : Dir12 := fun S a cap p w _ h hl hs hp => by
  have HC := Lib.hid (lying12 S a cap p w h hl hs hp)
  have HA := Lib.hid (fun o n v W h => at_er o p n v W h)
  obtain ⟨r, hr⟩ : ∃ r, drV S p.data.toList = r := ⟨_, rfl⟩
  have HR := Lib.hid hr
  unfold drV at HR
  rw [hr]
  obtain ⟨f, hf⟩ : ∃ f, lkV S p.data.toList = f := ⟨_, rfl⟩
  rw [hf] at HC HR
  obtain ⟨n, y⟩ := f
  clear h hl hs hp hf hr
  go_enter Tryz.func28, Tryz.ntmps28
  go_wp2_with fail
  refine (HC.out).mono ?_
  rintro e w1 ⟨er, rfl, her, hb⟩
  have HB1 := Lib.hid hb
  obtain ⟨V1, U1, M1, hV1, hM1, hU1, hv, hu, hb1⟩ := fd_box w1 y
  have v0 := hv.c0
  have v1 := hv.c1
  have v2 := hv.c2
  have v3 := hv.c3
  have vf0 := hv.f0
  have vf1 := hv.f1
  have vf2 := hv.f2
  have vf3 := hv.f3
  have q1 := hu.c1
  have q3 := hu.c3
  have HB2 := Lib.hid (HB1.out.trans (hb1.mono HB1.out.size))
  have her := her.below hb1
  clear hb hv hu hb1
  rcases her with ⟨h0, rfl⟩ | ⟨h0, herr⟩
  · by_cases h2 : y.1.2.1 = 2
    · have g2 : (y.1.2.1 == 2) = true := beq_iff_eq.2 h2
      have HV := Lib.hid (show r = (0, y.2) by rw [← HR.out, if_neg (not_not_intro h0), if_neg (not_not_intro h2)])
      clear h0 h2 HR HC HA
      go_wp2
      go_ret2
      exact ⟨_, by rw [HV.out]; rfl, by rw [HV.out]; exact er_nil _, HB2.out⟩
    · have g2 : (y.1.2.1 == 2) = false := beq_eq_false_iff_ne.2 h2
      have HV := Lib.hid (show r = (6, 0) by rw [← HR.out, if_neg (not_not_intro h0), if_pos h2])
      clear h0 h2 HR HC
      go_wp2_with fail
      refine (HA.out _ 6 _ _ (er_no11 _ _ (by decide))).mono ?_
      rintro e w3 ⟨er2, rfl, her, hb⟩
      have HB3 := Lib.hid (HB2.out.trans (hb.mono HB2.out.size))
      have HER := Lib.hid her
      clear hb her
      go_wp2
      go_ret2
      exact ⟨er2, by rw [HV.out]; rfl, by rw [HV.out]; exact HER.out, HB3.out⟩
  · have HV := Lib.hid (show r = (n, 0) by rw [← HR.out, if_pos h0])
    obtain ⟨u, z, rfl⟩ := herr.iface
    have HE := Lib.hid (show Er U1 n (.iface u z) from .inr ⟨h0, herr⟩)
    clear h0 herr HR HC
    go_wp2_with fail
    refine (HA.out _ n _ _ HE.out).mono ?_
    rintro e w3 ⟨er2, rfl, her, hb⟩
    have HB3 := Lib.hid (HB2.out.trans (hb.mono HB2.out.size))
    have HER := Lib.hid her
    clear hb her
    go_wp2
    go_ret2
    exact ⟨er2, by rw [HV.out]; rfl, by rw [HV.out]; exact HER.out, HB3.out⟩
set_option maxRecDepth 10000 in
set_option maxHeartbeats 4000000 in
theorem look12 : Look12 := fun S a cap p w _ h hl hs hp => by
  obtain ⟨V4, M4, hV4, hM4, h4, hl4, hb4⟩ := fd_new12 w
  have HC := Lib.hid (lying12 S a cap p V4 (h.below hb4) hl hs hp)
  have HA := Lib.hid (fun o n v W h => at_er o p n v W h)
  have HB4 := Lib.hid hb4
  have H4 := Lib.hid h4
  have HL4 := Lib.hid hl4
  obtain ⟨f, hf⟩ : ∃ f, lkV S p.data.toList = f := ⟨_, rfl⟩
  rw [hf] at HC ⊢
  obtain ⟨n, y⟩ := f
  clear h hl hs hp hf hb4 h4 hl4
  go_enter Tryz.func10, Tryz.ntmps10
  go_wp2_with fail
  refine (HC.out).mono ?_
  rintro e w1 ⟨er, rfl, her, hb⟩
  have HB1 := Lib.hid (HB4.out.trans (hb.mono HB4.out.size))
  obtain ⟨V1, U1, M1, hV1, hM1, hU1, hv, hu, hb1⟩ := fd_box w1 y
  have v0 := hv.c0
  have v1 := hv.c1
  have v2 := hv.c2
  have v3 := hv.c3
  have vf0 := hv.f0
  have vf1 := hv.f1
  have vf2 := hv.f2
  have vf3 := hv.f3
  have HB2 := Lib.hid (HB1.out.trans (hb1.mono HB1.out.size))
  have H42 := Lib.hid ((H4.out.below hb).below hb1)
  have HKS : Hid (∀ X, Below U1.heap.size U1 X → X.cell? ⟨M1, 0, none⟩ = some (.string y.1.1) ∧ X.cell? ⟨M1, 1, none⟩ = some (.int .i64 y.1.2.1) ∧ X.cell? ⟨M1, 2, none⟩ = some (.string y.1.2.2) ∧ X.cell? ⟨M1, 3, none⟩ = some (.int .i64 (y.2 : Int))) := fun X hX => ⟨(hu.below hX).c0, (hu.below hX).c1, (hu.below hX).c2, (hu.below hX).c3⟩
  have hne : M4 ≠ M1 := by
    have := (H4.out.below hb).lt
    omega
  have HKT : Hid (∀ X, Below U1.heap.size U1 X → (fdSet X M4 y).cell? ⟨M1, 0, none⟩ = some (.string y.1.1) ∧ (fdSet X M4 y).cell? ⟨M1, 1, none⟩ = some (.int .i64 y.1.2.1) ∧ (fdSet X M4 y).cell? ⟨M1, 2, none⟩ = some (.string y.1.2.2) ∧ (fdSet X M4 y).cell? ⟨M1, 3, none⟩ = some (.int .i64 (y.2 : Int))) := fun X hX => by
    have h9 := (hu.below hX).other hne y
    exact ⟨h9.c0, h9.c1, h9.c2, h9.c3⟩
  have HA1 : Hid (∀ o, Calls Tryz.prog 26 #[.string o, .string p, er] U1.drew fun e w' => ∃ v', e = .returned v' ∧ Er w' n v' ∧ Below U1.heap.size U1 w') := fun o => by
    refine (HA.out o n er U1.drew ((her.below hb1).below ((Below.refl _ _).drew))).mono ?_
    rintro e w' ⟨v', rfl, h1, hb⟩
    exact ⟨v', rfl, h1, ((Below.refl U1.heap.size U1).drew).trans hb⟩
  clear hb her hv hu hb1 HC HA hV4 hM4 hne
  go_wp2_with fail
  clear hV1 hM1 hU1 v0 v1 v2 v3 vf0 vf1 vf2 vf3
  go_region_held3 (fun X => X.cell? ⟨M1, 0, none⟩ = some (.string y.1.1) ∧ X.cell? ⟨M1, 1, none⟩ = some (.int .i64 y.1.2.1) ∧ X.cell? ⟨M1, 2, none⟩ = some (.string y.1.2.2) ∧ X.cell? ⟨M1, 3, none⟩ = some (.int .i64 (y.2 : Int)))
    (((first | with_reducible refine HKT.out _ ?_ | with_reducible refine HKS.out _ ?_); (first | with_reducible assumption | with_reducible exact Below.refl _ _ | with_reducible exact (Below.refl _ _).drew)))
    (first
    | (go_at_call 26; with_reducible refine (HA1.out _).mono ?_; rintro e w2 ⟨er2, rfl, her, hB2⟩; have H4X := Lib.hid (H42.out.below hB2); have p0 := H4X.out.c0; have p1 := H4X.out.c1; have p2 := H4X.out.c2; have p3 := H4X.out.c3; have s0 := H4X.out.f0; have s1 := H4X.out.f1; have s2 := H4X.out.f2; have s3 := H4X.out.f3))
  all_goals
    have HB3 := Lib.hid (HB2.out.trans (hB2.mono HB2.out.size))
    have HER2 := Lib.hid her
    clear hB2 her
    go_wp2
    have hld := lv_fd (H4X.out.set y)
    refine bodyPost_ret (v := .tuple #[fdnV y, er2]) ?_ rfl ⟨er2, rfl, er_set12 HER2.out H4X.out y, below_fd HB3.out HL4.out y⟩
    rw [results_cell_tmp rfl]
    simp [asAddr, Result.andThen, hld]
end Go.Proofs.YtlncdmdffpaojaaGreatDoor
