/-
  Contracts of the document's own answers (package shaleref03): Name and Split, byte by byte. Condition: the text's size fits.
-/
import Derived.Test.YtkclclhmeenncaaDoorPa
import Derived.Test.YtkclclhmeenncaaDoorStrRow
import Derived.Deep.LoopGhost
import Derived.IntWalk
import Derived.Laws.AppendOwn
namespace Go.Proofs.YtkclclhmeenncaaDoor
open Go.RowKit

theorem take_at (s : ByteArray) (k : Nat) (h : k < s.size) : s.data.toList.take (k + 1) = s.data.toList.take k ++ [s[k]] := by
  rw [List.take_add_one, at_eq s k h]
  rfl

theorem nb_cases (c : UInt8) :
    (nb c = true ∧ (((97 : Int) ≤ (c.toNat : Int) ∧ (c.toNat : Int) ≤ 122 ∧ (48 : Int) ≤ (c.toNat : Int) ∧ ¬ (c.toNat : Int) ≤ 57 ∧ ((c.toNat : Int) == 45) = false ∧ True)
      ∨ (¬ (97 : Int) ≤ (c.toNat : Int) ∧ (c.toNat : Int) ≤ 122 ∧ (48 : Int) ≤ (c.toNat : Int) ∧ (c.toNat : Int) ≤ 57 ∧ ((c.toNat : Int) == 45) = false ∧ ((c.toNat : Int) == 95) = false)
      ∨ (¬ (97 : Int) ≤ (c.toNat : Int) ∧ (c.toNat : Int) ≤ 122 ∧ ¬ (48 : Int) ≤ (c.toNat : Int) ∧ (c.toNat : Int) ≤ 57 ∧ ((c.toNat : Int) == 45) = true ∧ ((c.toNat : Int) == 95) = false)
      ∨ (¬ (97 : Int) ≤ (c.toNat : Int) ∧ (c.toNat : Int) ≤ 122 ∧ (48 : Int) ≤ (c.toNat : Int) ∧ ¬ (c.toNat : Int) ≤ 57 ∧ ((c.toNat : Int) == 45) = false ∧ ((c.toNat : Int) == 95) = true)))
    ∨ (nb c = false ∧ ((¬ (97 : Int) ≤ (c.toNat : Int) ∧ (c.toNat : Int) ≤ 122 ∧ ¬ (48 : Int) ≤ (c.toNat : Int) ∧ (c.toNat : Int) ≤ 57 ∧ ((c.toNat : Int) == 45) = false ∧ ((c.toNat : Int) == 95) = false)
      ∨ (¬ (97 : Int) ≤ (c.toNat : Int) ∧ (c.toNat : Int) ≤ 122 ∧ (48 : Int) ≤ (c.toNat : Int) ∧ ¬ (c.toNat : Int) ≤ 57 ∧ ((c.toNat : Int) == 45) = false ∧ ((c.toNat : Int) == 95) = false)
      ∨ ((97 : Int) ≤ (c.toNat : Int) ∧ ¬ (c.toNat : Int) ≤ 122 ∧ (48 : Int) ≤ (c.toNat : Int) ∧ ¬ (c.toNat : Int) ≤ 57 ∧ ((c.toNat : Int) == 45) = false ∧ ((c.toNat : Int) == 95) = false))) := by
  cases h : nb c
  · simp only [nb, Bool.or_eq_false_iff, Bool.and_eq_false_iff, decide_eq_false_iff_not, beq_eq_false_iff_ne] at h
    refine .inr ⟨rfl, ?_⟩
    simp only [beq_eq_false_iff_ne]
    omega
  · simp only [nb, Bool.or_eq_true, Bool.and_eq_true, decide_eq_true_eq, beq_iff_eq] at h
    refine .inl ⟨rfl, ?_⟩
    simp only [beq_eq_false_iff_ne, beq_iff_eq, and_true]
    omega

set_option maxHeartbeats 4000000 in
theorem refName (s : ByteArray) (hz : s.size ≤ 9223372036854775000) (w : World) :
    Calls Tryd.prog 44 #[.string s] w fun e w' => e = .returned (.bool (nm s.data.toList)) ∧ w = w' := by
  have hsz := Lib.size_eq s
  have HSZ := Lib.hid hsz
  clear hsz
  go_enter Tryd.func44, Tryd.ntmps44
  go_wp2
  go_loopg [3] s.size (fun g vi wx => ∃ k : Nat, vi = .int .i64 (k : Int) ∧ k + g = s.size ∧ Hid ((s.data.toList.take k).all nb = true) ∧ w = wx)
  case atStart => exact ⟨0, rfl, by omega, by simp [Hid], rfl⟩
  case round =>
    obtain ⟨k, rfl, hk, HA, rfl⟩ := hrel
    by_cases hlt : k < s.size
    · have HT := Lib.hid (take_at s k hlt)
      have hfalse : nb s[k] = false → nm s.data.toList = false := fun h => by
        have h0 : s.data.toList.all nb = false := by
          rw [← List.take_append_drop (k + 1) s.data.toList, HT.out]
          simp [h]
        simp [nm, h0]
      have HF := Lib.hid hfalse
      have htrue : nb s[k] = true → (s.data.toList.take (k + 1)).all nb = true := fun h => by
        rw [HT.out, List.all_append, HA.out]
        simp [h]
      have HTR := Lib.hid htrue
      clear hfalse htrue
      obtain ⟨c, hc⟩ : ∃ c, s[k] = c := ⟨_, rfl⟩
      rw [hc] at HF HTR
      rcases nb_cases c with ⟨hn, h | h | h | h⟩ | ⟨hn, h | h | h⟩
      all_goals obtain ⟨t1, t2, t3, t4, t5, t6⟩ := h
      all_goals
        go_wp2
        first
        | (go_roundg (gk - 1)
           (case measure => omega)
           (case rel => exact ⟨k + 1, by simp, by omega, HTR.out hn, rfl⟩))
        | (go_ret
           exact ⟨by rw [HF.out hn] <;> rfl, rfl⟩)
    · have hlt' : ¬ (k : Int) < (s.size : Int) := by omega
      have hkn : k = s.size := by omega
      have hall : s.data.toList.all nb = true := by
        have := HA.out
        rwa [hkn, HSZ.out, List.take_length] at this
      have hv : nm s.data.toList = (decide ((1 : Int) ≤ s.size) && decide ((s.size : Int) ≤ 8)) := by
        rw [nm, hall, Bool.and_true, HSZ.out]
        rw [Bool.eq_iff_iff]
        simp
        omega
      have HV := Lib.hid hv
      clear hv hall
      go_wp2
      all_goals
        go_ret
        refine ⟨?_, rfl⟩
        rw [HV.out]
        first
        | (simp [*]; done)
        | (simp [*]; omega)

/-- the state of Split's loop: done are the pieces behind us, f is where the piece at hand begins, i where we look -/
structure Spl (w : World) (l : List UInt8) (i f : Nat) (done : List ByteArray) (v : Value) (wx : World) : Prop where
  own : wx.ownsRow w.heap.size 9 1 v done.length (done.map Value.string)
  below : Below w.heap.size w wx
  six : done.length ≤ 6
  names : ∀ y ∈ done, nm y.data.toList = true
  fi : f ≤ i
  f1 : 1 ≤ f
  rest : i ≤ l.length → pcs l = lists done ++ spl (l.drop f) ∧ 47 ∉ (l.drop f).take (i - f)
  gone : ¬ i ≤ l.length → pcs l = lists done

theorem spl_at {l : List UInt8} {i f : Nat} (hf : f ≤ i) (hi : i ≤ l.length) (h0 : 47 ∉ (l.drop f).take (i - f)) (h : i = l.length ∨ l[i]? = some 47) :
    spl (l.drop f) = (l.drop f).take (i - f) :: (if i = l.length then [] else spl (l.drop (i + 1))) := by
  by_cases he : i = l.length
  · rw [if_pos he]
    have e : (l.drop f).take (i - f) = l.drop f := List.take_of_length_le (by rw [List.length_drop]; omega)
    rw [e] at h0 ⊢
    exact spl_noslash _ h0
  · rw [if_neg he]
    have h47 := h.resolve_left he
    have hlt : i < l.length := by omega
    have e : l.drop f = (l.drop f).take (i - f) ++ 47 :: l.drop (i + 1) := by
      have e1 : (l.drop f).drop (i - f) = 47 :: l.drop (i + 1) := by
        rw [List.drop_drop, show f + (i - f) = i by omega]
        rw [List.getElem?_eq_getElem hlt] at h47
        rw [← Option.some.inj h47, List.getElem_cons_drop]
      rw [← e1, List.take_append_drop]
    conv => lhs; rw [e]
    exact spl_cut _ _ h0
theorem not_good {l : List UInt8} {done : List ByteArray} {x : List UInt8} {more : List (List UInt8)} (h : pcs l = lists done ++ x :: more) (hb : nm x = false ∨ done.length = 6) : ¬ isP l := fun hp => by
  rcases hb with hb | hb
  · have := hp.2.2 x (by rw [h]; simp)
    rw [this] at hb
    cases hb
  · have := hp.2.1
    rw [h] at this
    simp [lists] at this
    omega
theorem own_block {w : World} {B : Nat} {e : TypeId} {v : Value} {n : Nat} {xs : List Value} (h : w.ownsRow B e 1 v n xs) : ∀ k, v.ownBlock = some k → B ≤ k := fun k hk => by
  obtain ⟨_, ⟨rfl, _⟩ | ⟨g, cap, cur, rfl, hg, _⟩⟩ := h
  · cases hk
  · simp [Value.ownBlock] at hk
    omega

set_option maxRecDepth 100000 in
set_option maxHeartbeats 8000000 in
theorem refSplit_slash (p : ByteArray) (hz : p.size ≤ 100000) (hh : p.data.toList.head? = some 47) (hne : p.data.toList ≠ [47]) (w : World) :
    Calls Tryd.prog 30 #[.string p] w fun e w' => ((isP p.data.toList ∧ ∃ a cap, e = .returned (.tuple #[.slice a (prts p).length cap, .bool true]) ∧ Row w' a cap (prts p)) ∨ (¬ isP p.data.toList ∧ e = .returned (.tuple #[.slice none 0 0, .bool false]))) ∧ Below w.heap.size w w' := by
  obtain ⟨i0, hi, hz0, hz1, hz2⟩ := info_parts infoS
  have HI := Lib.hid hi
  have HZ0 := Lib.hid hz0
  have HZ1 := Lib.hid hz1
  have HZ2 := Lib.hid hz2
  have hs' : (p.toList == [47]) = false := by rw [eq_slash]; simpa using hne
  have hsz := Lib.size_eq p
  obtain ⟨r, hcr⟩ : ∃ r, p.data.toList = 47 :: r := by
    cases h : p.data.toList with
    | nil => rw [h] at hh; cases hh
    | cons c r => rw [h] at hh; obtain rfl : c = 47 := by simpa using hh
                  exact ⟨r, rfl⟩
  have hpos : 0 < p.size := by rw [hsz, hcr]; simp
  have hp0 : (p[0]'hpos) = 47 := by
    have := at_eq p 0 hpos
    rw [hcr] at this
    simpa using this.symm
  have hp00 : (((p[0]'hpos).toNat : Int) == 47) = true := by rw [hp0]; rfl
  have hp01 : (((p[0]'hpos).toNat : Int) != 47) = false := by simp only [bne, hp00]; rfl
  have hn0 : ((p.size : Int) == 0) = false := by rw [beq_eq_false_iff_ne]; omega
  have hrne : r ≠ [] := fun e => hne (by rw [hcr, e])
  have H0 : Hid (Spl w p.data.toList 1 1 [] (.slice none 0 0) w) := ⟨World.ownsRow_nil _ _ _ _, Below.refl _ _, by simp, by simp, by omega, by omega, fun _ => by rw [hcr, pcs, if_neg hrne]; simp [lists], fun h => by rw [← hsz] at h; omega⟩
  have HH := Lib.hid hh
  have HSZ := Lib.hid hsz
  clear hi hz0 hz1 hz2 hh hne hsz hcr hrne hp0
  go_enter Tryd.func30, Tryd.ntmps30
  go_wp2
  go_loopg [4, 5, 6] p.size (fun g v4 v5 v6 wx => ∃ (i f : Nat) (done : List ByteArray) (a : Option Addr) (cap : Nat), v4 = .slice a done.length cap ∧ v5 = .int .i64 (f : Int) ∧ v6 = .int .i64 (i : Int) ∧ i + g = p.size + 1 ∧ Hid (Spl w p.data.toList i f done (.slice a done.length cap) wx))
  case atStart => exact ⟨1, 1, [], none, 0, rfl, rfl, rfl, by omega, H0.out⟩
  case round =>
    clear H0
    obtain ⟨i, f, done, a, cap, rfl, rfl, rfl, hg, HS⟩ := hrel
    by_cases hle : i ≤ p.size
    · have hle' : (i : Int) ≤ (p.size : Int) := by omega
      have hw : IntKind.i64.wrap ((i : Int) + 1) = (i : Int) + 1 := IntWalk.i64_in _ (by omega)
      have hfi := HS.out.fi
      have hfi' : (f : Int) ≤ (i : Int) := by omega
      have hf0 : (0 : Int) ≤ (f : Int) := by omega
      have h6 := HS.out.six
      have hrest := HS.out.rest (by rw [← HSZ.out]; exact hle)
      have HREST := Lib.hid hrest
      have hpx : (p.extract f i).data.toList = (p.data.toList.drop f).take (i - f) := Lib.extract_data p f i
      have HPX := Lib.hid hpx
      clear hrest hpx
      -- a piece ends here, or none does
      by_cases hend : i = p.size ∨ p.data.toList[i]? = some 47
      · have hsp := spl_at hfi (by rw [← HSZ.out]; exact hle) HREST.out.2 (by rw [← HSZ.out]; exact hend)
        have hpc : pcs p.data.toList = lists done ++ (p.extract f i).data.toList :: (if i = p.data.toList.length then [] else spl (p.data.toList.drop (i + 1))) := by rw [HPX.out, ← hsp]; exact HREST.out.1
        have HPC := Lib.hid hpc
        clear hsp hpc
        have hxs : (p.extract f i).size ≤ 9223372036854775000 := by
          rw [Lib.size_eq, HPX.out]
          simp
          omega
        have HXS := Lib.hid hxs
        clear hxs
        have htest : (((i : Int) == (p.size : Int)) = true) ∨ ((((i : Int) == (p.size : Int)) = false) ∧ ∃ h : i < p.size, (((p[i]'h).toNat : Int) == 47) = true) := by
          by_cases he : i = p.size
          · exact .inl (by rw [he]; simp)
          · refine .inr ⟨by simp; omega, by omega, ?_⟩
            have := at_eq p i (by omega)
            rw [hend.resolve_left he] at this
            rw [← Option.some.inj this]
            rfl
        clear hend
        rcases htest with ht | ⟨ht, hilt, ht2⟩
        · go_wp2_with fail
          refine (refName (p.extract f i) HXS.out _).mono ?_
          rintro e w2 ⟨rfl, rfl⟩
          cases hn : nm (p.extract f i).data.toList with
          | false =>
            have HNG := Lib.hid (not_good HPC.out (.inl hn))
            go_wp2
            go_ret2
            exact ⟨.inr ⟨HNG.out, rfl⟩, HS.out.below⟩
          | true =>
            by_cases hd6 : done.length = 6
            · have HNG := Lib.hid (not_good HPC.out (.inr hd6))
              have hd6' : ((done.length : Int) == 6) = true := by rw [hd6]; rfl
              go_wp2
              go_ret2
              exact ⟨.inr ⟨HNG.out, rfl⟩, HS.out.below⟩
            · have hd6' : ((done.length : Int) == 6) = false := by simp; omega
              go_wp2_with (at_builtin; refine wpList_append_own _ rfl _ _ 48 rfl w.heap.size 9 i0 (.string ⟨#[]⟩) 1 16 Tryd.underlying48 HI.out HZ0.out HZ1.out HZ2.out rfl (by decide) _ _ _ rfl (HS.out.own.alloc _) ⟨wr.heap.size, 0, none⟩ 1 1 [.string (p.extract f i)] rfl rfl (cell_one_new _ _ _) ?c2 ?c3 ?c4 ?c5 ?_)
              case c2 => intro u hu; simp at hu; subst hu; rfl
              case c3 => unfold maxLen; omega
              case c4 => omega
              case c5 => have := HS.out.below.size; simp; omega
              · intro v' w3 hown' hgrow _
                obtain ⟨g', cap', rfl⟩ := ownsRow_succ hown'
                have hnext : Spl w p.data.toList (i + 1) (i + 1) (done ++ [p.extract f i]) (.slice (some ⟨g', 0, none⟩) (done.length + 1) cap') w3 := by
                  refine ⟨by simpa using hown', (HS.out.below.alloc HS.out.below.size _).grown hgrow (by have := HS.out.below.size; simp; omega) (own_block HS.out.own), by simp; omega, ?_, Nat.le_refl _, by omega, ?_, ?_⟩
                  · intro y hy
                    rcases List.mem_append.1 hy with hy | hy
                    · exact HS.out.names y hy
                    · obtain rfl : y = p.extract f i := by simpa using hy
                      exact hn
                  · intro hle2
                    have hne2 : i ≠ p.data.toList.length := by omega
                    have := HPC.out
                    rw [if_neg hne2] at this
                    exact ⟨by rw [this]; simp [lists], by simp⟩
                  · intro hle2
                    have hne2 : i = p.data.toList.length := by have := HSZ.out; omega
                    have := HPC.out
                    rw [if_pos hne2] at this
                    rw [this]
                    simp [lists]
                have HNX := Lib.hid hnext
                clear hnext hown' hgrow
                go_wp2
                go_roundg (gk - 1)
                case measure => omega
                case rel => exact ⟨i + 1, i + 1, done ++ [p.extract f i], some ⟨g', 0, none⟩, cap', by simp, by simp, by simp, by omega, by show Spl _ _ _ _ _ _ _; have := HNX.out; simpa using this⟩
        · go_wp2_with fail
          refine (refName (p.extract f i) HXS.out _).mono ?_
          rintro e w2 ⟨rfl, rfl⟩
          cases hn : nm (p.extract f i).data.toList with
          | false =>
            have HNG := Lib.hid (not_good HPC.out (.inl hn))
            go_wp2
            go_ret2
            exact ⟨.inr ⟨HNG.out, rfl⟩, HS.out.below⟩
          | true =>
            by_cases hd6 : done.length = 6
            · have HNG := Lib.hid (not_good HPC.out (.inr hd6))
              have hd6' : ((done.length : Int) == 6) = true := by rw [hd6]; rfl
              go_wp2
              go_ret2
              exact ⟨.inr ⟨HNG.out, rfl⟩, HS.out.below⟩
            · have hd6' : ((done.length : Int) == 6) = false := by simp; omega
              go_wp2_with (at_builtin; refine wpList_append_own _ rfl _ _ 48 rfl w.heap.size 9 i0 (.string ⟨#[]⟩) 1 16 Tryd.underlying48 HI.out HZ0.out HZ1.out HZ2.out rfl (by decide) _ _ _ rfl (HS.out.own.alloc _) ⟨wr.heap.size, 0, none⟩ 1 1 [.string (p.extract f i)] rfl rfl (cell_one_new _ _ _) ?c2 ?c3 ?c4 ?c5 ?_)
              case c2 => intro u hu; simp at hu; subst hu; rfl
              case c3 => unfold maxLen; omega
              case c4 => omega
              case c5 => have := HS.out.below.size; simp; omega
              · intro v' w3 hown' hgrow _
                obtain ⟨g', cap', rfl⟩ := ownsRow_succ hown'
                have hnext : Spl w p.data.toList (i + 1) (i + 1) (done ++ [p.extract f i]) (.slice (some ⟨g', 0, none⟩) (done.length + 1) cap') w3 := by
                  refine ⟨by simpa using hown', (HS.out.below.alloc HS.out.below.size _).grown hgrow (by have := HS.out.below.size; simp; omega) (own_block HS.out.own), by simp; omega, ?_, Nat.le_refl _, by omega, ?_, ?_⟩
                  · intro y hy
                    rcases List.mem_append.1 hy with hy | hy
                    · exact HS.out.names y hy
                    · obtain rfl : y = p.extract f i := by simpa using hy
                      exact hn
                  · intro hle2
                    have hne2 : i ≠ p.data.toList.length := by omega
                    have := HPC.out
                    rw [if_neg hne2] at this
                    exact ⟨by rw [this]; simp [lists], by simp⟩
                  · intro hle2
                    have hne2 : i = p.data.toList.length := by have := HSZ.out; omega
                    have := HPC.out
                    rw [if_pos hne2] at this
                    rw [this]
                    simp [lists]
                have HNX := Lib.hid hnext
                clear hnext hown' hgrow
                go_wp2
                go_roundg (gk - 1)
                case measure => omega
                case rel => exact ⟨i + 1, i + 1, done ++ [p.extract f i], some ⟨g', 0, none⟩, cap', by simp, by simp, by simp, by omega, by show Spl _ _ _ _ _ _ _; have := HNX.out; simpa using this⟩
      · have hilt : i < p.size := by
          have := fun h => hend (.inl h)
          omega
        have hne47 : (((p[i]'hilt).toNat : Int) == 47) = false := by
          rw [beq_eq_false_iff_ne]
          intro e
          refine hend (.inr ?_)
          rw [at_eq p i hilt]
          congr 1
          apply UInt8.toNat_inj.1
          show _ = 47
          omega
        have hii : ((i : Int) == (p.size : Int)) = false := by simp; omega
        have hnext : Spl w p.data.toList (i + 1) f done (.slice a done.length cap) wr := by
          refine ⟨HS.out.own, HS.out.below, HS.out.six, HS.out.names, by omega, HS.out.f1, fun _ => ⟨HREST.out.1, ?_⟩, fun h => absurd (by rw [← HSZ.out]; omega) h⟩
          have e1 : (p.data.toList.drop f)[i - f]? = some p[i] := by rw [List.getElem?_drop, show f + (i - f) = i by omega]; exact at_eq p i hilt
          rw [show i + 1 - f = (i - f) + 1 by omega, List.take_add_one, e1]
          intro hm
          rcases List.mem_append.1 hm with hm | hm
          · exact HREST.out.2 hm
          · have h47 : 47 = p[i] := by simpa using hm
            rw [← h47] at hne47
            simp at hne47
        have HNX := Lib.hid hnext
        clear hnext hend
        go_wp2
        go_roundg (gk - 1)
        case measure => omega
        case rel => exact ⟨i + 1, f, done, a, cap, rfl, rfl, by simp, by omega, HNX.out⟩
    · have hle' : ¬ (i : Int) ≤ (p.size : Int) := by omega
      have hgone := HS.out.gone (by rw [← HSZ.out]; exact hle)
      have hdone : prts p = done := by
        rw [prts, hgone, lists, List.map_map]
        conv => rhs; rw [← List.map_id done]
        exact List.map_congr_left fun s _ => bs_data s
      have hP : isP p.data.toList := ⟨HH.out, by rw [hgone]; simpa [lists] using HS.out.six, by
        rw [hgone]
        intro x hx
        obtain ⟨y, hy, rfl⟩ := List.mem_map.1 hx
        exact HS.out.names y hy⟩
      obtain ⟨a2, cap2, he, hrow⟩ := row_of_owns HS.out.own
      have HP := Lib.hid hP
      have HD := Lib.hid hdone
      have HROW := Lib.hid hrow
      have HE := Lib.hid he
      clear hP hdone hrow he hgone
      go_wp2
      go_ret2
      refine ⟨.inl ⟨HP.out, a, cap, ?_, ?_⟩, HS.out.below⟩
      · rw [HD.out]; rfl
      · rw [HD.out]
        obtain ⟨rfl, _, rfl⟩ : a = a2 ∧ done.length = done.length ∧ cap = cap2 := by simpa using HE.out
        exact HROW.out
end Go.Proofs.YtkclclhmeenncaaDoor
