/-
  Contracts of slices.Index, slices.Contains at a map of places, of space.Mark where it goes well, of fail.Code at nil. Condition: the map has no more than 100000 places.
-/
import Derived.Test.YtjghfecnekgfpaaDoorS6Own
namespace Go.Proofs.YtjghfecnekgfpaaDoor
open Go.RowKit

theorem codeNil6 (w : World) : Calls Tryd.prog 9 #[.nilIface] w fun e w' => e = .returned (.int .i64 0) ∧ w = w' := by
  go_enter Tryd.func9, Tryd.ntmps9
  go_wp2
  go_ret
  exact ⟨rfl, rfl⟩

/-- n places from a on set, one behind the other. -/
def mk (l : List Bool) (a : Nat) : Nat → Bool → List Bool
  | 0, _ => l
  | n + 1, x => (mk l a n x).set (a + n) x
theorem mk_len (l : List Bool) (a : Nat) (x : Bool) : ∀ n, (mk l a n x).length = l.length
  | 0 => rfl
  | n + 1 => by rw [mk, List.length_set, mk_len l a x n]
theorem mk_get (l : List Bool) (a : Nat) (x : Bool) : ∀ (n j : Nat), a + n ≤ j → (mk l a n x)[j]? = l[j]?
  | 0, _, _ => rfl
  | n + 1, j, h => by rw [mk, List.getElem?_set_ne (by omega), mk_get l a x n j (by omega)]
theorem fr_used : ∀ (l : List Bool) (i : Nat), l[i]? = some false → fr (l.set i true) + 1 = fr l
  | [], i, h => by simp at h
  | y :: r, 0, h => by
    obtain rfl : y = false := by simpa using h
    simp [fr]
  | y :: r, i + 1, h => by
    have := fr_used r i (by simpa using h)
    unfold fr at *
    rw [List.set_cons_succ, List.countP_cons, List.countP_cons]
    omega
theorem fr_mk {l : List Bool} {a : Nat} : ∀ n, isRun l a n → fr (mk l a n true) + n = fr l
  | 0, _ => rfl
  | n + 1, h => by
    have h1 := fr_mk n (h.short (by omega))
    have h2 := fr_used (mk l a n true) (a + n) (by rw [mk_get l a true n _ (Nat.le_refl _)]; exact h.2 n (by omega))
    rw [mk]
    omega

set_option maxHeartbeats 1000000 in
theorem index_none (a : Option Addr) (cap : Nat) (L : List Bool) (y : Bool) (hy : ∀ x ∈ L, x = !y) (hl : L.length ≤ 100000) (w : World) (hm : Mp w a cap L) :
    Calls Tryd.prog 13 #[.slice a L.length cap, .bool y] w fun e w' => e = .returned (.int .i64 (-1)) ∧ w = w' := by
  have HM := Lib.hid hm
  have HY := Lib.hid hy
  obtain ⟨N, hN⟩ : ∃ N, L.length = N := ⟨_, rfl⟩
  rw [hN]
  rw [hN] at hl
  have HN := Lib.hid hN
  clear hN hm hy
  go_enter Tryd.func13, Tryd.ntmps13
  go_wp2
  go_loopg [8] N (fun g vi wx => ∃ (k : Nat), vi = .int .i64 (k : Int) ∧ k + g = N ∧ w = wx)
  case atStart => exact ⟨0, rfl, by omega, rfl⟩
  case round =>
    obtain ⟨k, rfl, hk, rfl⟩ := hrel
    by_cases hlt : k < N
    · have hlt' : (k : Int) < (N : Int) := by omega
      obtain ⟨b, off, x, rfl, hc, _, hx⟩ := HM.out.get (k := k) (by have := HN.out; omega)
      have hxy := HY.out x (List.mem_of_getElem? hx)
      subst hxy
      clear hx
      have hw : IntKind.i64.wrap ((k : Int) + 1) = (k : Int) + 1 := IntWalk.i64_in _ (by omega)
      cases y
      all_goals
        go_wp2
        go_roundg (gk - 1)
        case measure => omega
        case rel => exact ⟨k + 1, by simp, by omega, rfl⟩
    · have hlt' : ¬ (k : Int) < (N : Int) := by omega
      go_wp2
      go_ret
      exact ⟨rfl, rfl⟩
theorem contains_none (a : Option Addr) (cap : Nat) (L : List Bool) (y : Bool) (hy : ∀ x ∈ L, x = !y) (hl : L.length ≤ 100000) (w : World) (hm : Mp w a cap L) :
    Calls Tryd.prog 11 #[.slice a L.length cap, .bool y] w fun e w' => e = .returned (.bool false) ∧ w = w' := by
  have H := Lib.hid (index_none a cap L y hy hl w hm)
  clear hy hl hm
  go_enter Tryd.func11, Tryd.ntmps11
  go_wp2_with fail
  refine H.out.mono ?_
  rintro e w1 ⟨rfl, rfl⟩
  go_wp2
  go_ret
  exact ⟨rfl, rfl⟩
/-- append(s, t...) where s has no place and no room, t is no empty map: a new map. -/
theorem wl_new6 {w : World} {ops : Array Oper} {rest : List Oper} {o : Oper} {a : Act} {Q : Exit → Act → World → Prop} (hgd : o.guard = none) (s x : Operand)
    (ho : o.op = .call { callee := .builtin .append, args := #[s, x], argTypes := #[22, 22] }) (aN : Addr) (hs : a.eval s = .slice (some aN) 0 0) (aS : Option Addr) (m c : Nat) (l : List Bool) (hx : a.eval x = .slice aS m c) (hm : Mp w aS c l) (hl : l.length = m) (h0 : 0 < m) (hf : m ≤ 100000)
    (h : ∀ v' w', OwnM w' w.heap.size v' l → Below w.heap.size w w' → wpList Tryd.prog ops Q rest (a.put o.dst v') w') : wpList Tryd.prog ops Q (o :: rest) a w := by
  obtain ⟨i, hi, hz, h1, h2⟩ := info_parts infoBl6
  have hsrc := hm.src
  obtain ⟨b, off, rfl, _⟩ := Mp.start hm (by omega)
  have hr := run_append_grow (P := Tryd.prog) w 22 o.type 4 i (.bool false) Tryd.underlying22 hi hz aN 0 0 [] (by simp) (fun j u hu => by simp at hu) ⟨b, off, none⟩ m c (l.map Value.bool) (by simp [hl, h1]) (hsrc.1 _ rfl) (by omega) (by omega) (growslice_fits (by omega) (by rw [h2]; omega))
  simp only [Nat.zero_add] at hr
  refine wpList_plain hgd fun K hK => ?_
  unfold Oper.wp execOp
  simp only [ho, resolve, invoke, builtin, Sem.run_bind, Sem.run_pure, Result.andThen_ok, List.map_toArray, List.map_cons, List.map_nil, hs, hx, hr]
  refine hK _ _ (h _ _ ?_ ?_)
  · have hge := grownCap_ge w m 0 4
    have hcm : grownCap w m 0 4 ≤ maxLen := grownCap_le_maxLen w m 0 4 (by unfold maxLen; omega)
    unfold OwnM
    refine ⟨by simp, .inr ⟨w.heap.size, grownCap w m 0 4, _, by rw [hl], Nat.le_refl _, heap_alloc_new w.drew _, by omega, hcm, ?_, ?_⟩⟩
    · simp [size_zeroCells, hl, Value.cells]
      omega
    · simp [hl]
  · exact ((Below.refl w.heap.size w).drew).alloc (Nat.le_refl _) _

set_option maxHeartbeats 4000000 in
theorem mark_good (a : Option Addr) (cap : Nat) (L : List Bool) (p n : Nat) (y : Bool) (hp : p + n ≤ L.length) (hn : 1 ≤ n) (hy : ∀ j, j < n → L[p + j]? = some (!y)) (hl : L.length ≤ 100000) (w : World) (hm : Mp w a cap L) :
    Calls Tryd.prog 8 #[.slice a L.length cap, .int .i64 (p : Int), .int .i64 (n : Int), .bool y] w fun e w' => ∃ a' cap', e = .returned (.tuple #[.slice a' L.length cap', .nilIface]) ∧ Mp w' a' cap' (mk L p n y) ∧ Below w.heap.size w w' := by
  obtain ⟨b, off, rfl, hcp⟩ := Mp.start hm (by omega)
  have hcap := hm.1
  have HP := Lib.hid (Mp.part hm p n (cap - p) hp (by omega))
  have HY := Lib.hid (show ∀ x ∈ (L.drop p).take n, x = !y by
    intro x hx
    obtain ⟨j, hj⟩ := List.mem_iff_getElem?.1 hx
    rw [List.getElem?_take] at hj
    split at hj
    · rename_i h5
      rw [List.getElem?_drop, hy j h5] at hj
      exact (Option.some.inj hj).symm
    · cases hj)
  have HC := Lib.hid (contains_none (some ⟨b, off + p, none⟩) (cap - p) ((L.drop p).take n) y HY.out (by rw [List.length_take]; omega) w HP.out)
  rw [show ((L.drop p).take n).length = n by rw [List.length_take, List.length_drop]; omega] at HC
  have HM := Lib.hid hm
  obtain ⟨N, hN⟩ : ∃ N, L.length = N := ⟨_, rfl⟩
  rw [hN]
  rw [hN] at hl hp hcap
  have HN := Lib.hid hN
  have h1 : ¬ (p : Int) < 0 := by omega
  have h2 : ¬ (n : Int) < 0 := by omega
  obtain ⟨d, hd⟩ : ∃ d, N - n = d := ⟨_, rfl⟩
  have hw1 : IntKind.i64.wrap ((N : Int) - (n : Int)) = (d : Int) := by
    rw [show (N : Int) - (n : Int) = (d : Int) by omega]
    exact IntWalk.i64_in _ (by omega)
  have h3 : ¬ (d : Int) < (p : Int) := by omega
  obtain ⟨q, hq⟩ : ∃ q, p + n = q := ⟨_, rfl⟩
  have hw2 : IntKind.i64.wrap ((p : Int) + (n : Int)) = (q : Int) := by
    rw [show (p : Int) + (n : Int) = (q : Int) by omega]
    exact IntWalk.i64_in _ (by omega)
  have h4 : (p : Int) ≤ (q : Int) := by omega
  have h5 : (q : Int) ≤ (cap : Int) := by omega
  have h6 : ¬ cap = p := by omega
  have h7 : q - p = n := by omega
  have H0 := Lib.hid (show 0 < N by omega)
  have HL := Lib.hid hl
  have HP2 := Lib.hid (show p + n ≤ N by omega)
  clear hm hN hp hy hn hd hq hl hcp hcap HP HY
  go_enter Tryd.func8, Tryd.ntmps8
  go_wp2_with fail
  refine HC.out.mono ?_
  rintro e w1 ⟨rfl, rfl⟩
  clear HC
  go_wp2_with (at_builtin; refine Stopped.go ?_)
  unfold Stopped
  refine wl_new6 (by rfl) _ _ (by rfl) ⟨b, off, none⟩ ?s1 (some ⟨b, off, none⟩) N cap L ?x1 HM.out HN.out H0.out HL.out ?_
  case s1 => rfl
  case x1 => rfl
  intro v3 w3 ho3 hb3
  obtain ⟨g, c, hv⟩ := ho3.cons (by have := HN.out; have := H0.out; omega)
  rw [HN.out] at hv
  subst hv
  have HO := Lib.hid ho3
  have HB := Lib.hid hb3
  have HG := Lib.hid ho3.blk
  clear ho3 hb3 h4 h5 h6 h7
  go_wp2
  go_loopg [41] n (fun m vi wx => ∃ (k : Nat), vi = .int .i64 (k : Int) ∧ k + m = n ∧ Hid (OwnM wx w.heap.size (.slice (some ⟨g, 0, none⟩) N c) (mk L p k y) ∧ Below w.heap.size w wx))
  case atStart => exact ⟨0, rfl, by omega, HO.out, HB.out⟩
  case round =>
    clear HO HB
    obtain ⟨k, rfl, hk, HR⟩ := hrel
    by_cases hlt : k < n
    · have hlt' : (k : Int) < (n : Int) := by omega
      obtain ⟨r, hr⟩ : ∃ r, p + k = r := ⟨_, rfl⟩
      have hw3 : IntKind.i64.wrap ((p : Int) + (k : Int)) = (r : Int) := by
        rw [show (p : Int) + (k : Int) = (r : Int) by omega]
        exact IntWalk.i64_in _ (by have := HL.out; have := HP2.out; omega)
      have hrN : (r : Int) < (N : Int) := by have := HP2.out; omega
      have hw : IntKind.i64.wrap ((k : Int) + 1) = (k : Int) + 1 := IntWalk.i64_in _ (by have := HL.out; have := HP2.out; omega)
      obtain ⟨x, hc, hf⟩ := HR.out.1.at (k := r) (by rw [mk_len]; have := HN.out; omega)
      have HS := Lib.hid (show OwnM (wr.setCell ⟨g, r, none⟩ (.bool y)) w.heap.size (.slice (some ⟨g, 0, none⟩) N c) (mk L p (k + 1) y) by
        rw [mk, hr]
        exact HR.out.1.set r (by rw [mk_len]; have := HN.out; omega) y)
      have HB := Lib.hid (HR.out.2.setCell (p := ⟨g, r, none⟩) HG.out (.bool y))
      clear hr
      go_wp2
      go_roundg (gk - 1)
      case measure => omega
      case rel => exact ⟨k + 1, by simp, by omega, HS.out, HB.out⟩
    · have hlt' : ¬ (k : Int) < (n : Int) := by omega
      obtain rfl : k = n := by omega
      obtain ⟨a5, cap5, hv5, hm5, _⟩ := HR.out.1.mp
      rw [mk_len, HN.out] at hv5
      injection hv5 with e1 _ e2
      subst e1 e2
      have HM5 := Lib.hid hm5
      have HB5 := Lib.hid HR.out.2
      clear hm5 HR
      go_wp2
      go_ret2
      exact ⟨_, _, rfl, HM5.out, HB5.out⟩
end Go.Proofs.YtjghfecnekgfpaaDoor
