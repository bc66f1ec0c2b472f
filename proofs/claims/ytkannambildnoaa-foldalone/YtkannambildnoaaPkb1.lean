/-
  Contracts of the document's own answers (package shaleref03): Name and Split, byte by byte. Condition: the text's size fits.
  The contract of the document's own Split (package shaleref03): a path's names. Condition: the text has at most 100000 bytes.
  Bytes of a literal as a text: one byte, four bytes. No condition.
  A number's bytes: its digits of 7 bits, the lowest first; they are 1 to 9, no fewer of a greater number; of two numbers' bytes none are the beginning of the other's. No condition.
  The contract of package code's Num: a number's bytes; what was in memory stays. Condition: the number is one from 0 to 2^62.
  The contract of the document's own Num (package shaleref04): a number's digits. Condition: the number is at most 2^62.
  Contracts of the document's own answers of layer 8 (package shaleref08): Right, Lay. Conditions: as each says.
  The contract of the document's own Lay of an entry (package shaleref08): its bytes. Condition: the kind is one of 0 to 127, the texts are short.
  Entries as bytes, told by lists: one's bytes begin no other one's; what a right entry's parts are. No condition.
  Layers as lists of entries: the order of paths, what a right layer is, one entry more at its end, an entry put and dropped, what lies under a path. No condition.
  A layer laid over a tree, told by lists: what is there then, entry by entry; what comes is a tree; twice is as once; a stack. No condition.
  The contract of the document's own Under of two paths (package shaleref10). Condition: the texts' sizes fit.
  A slice in memory whose elements are of C cells each: what it holds, said by a list; it stays while what is written lies above it. No condition.
  A slice in memory whose elements are of one cell each: what it holds, said by a list; it stays while what is written lies above it. No condition.
  append(s, t...) where s is a slice that the call made itself and t any slice that lies in memory, nil among them: what is made holds both. No condition but that it fits.
  A region that draws its order, all of whose operations and callees leave what was there as it was (they may make new blocks): one walk, in the order of the text, serves every order. No condition.
-/
import Derived.Test.YtkannambildnoaaPka1
import Derived.Deep.LoopGhost
import Derived.IntWalk
import Derived.Laws.AppendOwn
import Derived.Test.YtkannambildnoaaProg
import Derived.WalkKit
import Derived.Laws.BytesArg
import Derived.Lib.Hide
import Derived.RangeFuncBox
import Derived.Maps.AppendAt
import Derived.Laws.IdiomStrings
import Derived.Lib.Strings
import Derived.Deep.RegionHeld3
import Derived.Deep.RegionHeld
import Derived.Deep.DrawnRows
import Derived.OpenShut
import Derived.Deep.Slices
import Derived.Deep.MidRow
import Derived.WideShapes
import Derived.Deep.AppendSrc
import Derived.Deep.QuietTactic
import Derived.BigQuiet
namespace Go.Proofs.Ytkannambildnoaa
open Go.RowKit

theorem take_at (s : ByteArray) (k : Nat) (h : k < s.size) : s.data.toList.take (k + 1) = s.data.toList.take k ++ [s[k]] := by
  rw [List.take_add_one, at_eq s k h]
  rfl

theorem nb_cases (c : UInt8) :
    (nb c = true ∧ (((97 : Int) ≤ (c.toNat : Int) ∧ (c.toNat : Int) ≤ 122 ∧ (48 : Int) ≤ (c.toNat : Int) ∧ ¬ (c.toNat : Int) ≤ 57 ∧ ((c.toNat : Int) == 45) = false ∧ True)
      ∨ (¬ (97 : Int) ≤ (c.toNat : Int) ∧ (c.toNat : Int) ≤ 122 ∧ (48 : Int) ≤ (c.toNat : Int) ∧ (c.toNat : Int) ≤ 57 ∧ ((c.toNat : Int) == 45) = false ∧ ((c.toNat : Int) == 95) = false)
      ∨ (¬ (97 : Int) ≤ (c.toNat : Int) ∧ (c.toNat : Int) ≤ 122 ∧ ¬ (48 : Int) ≤ (c.toNat : Int) ∧ (c.toNat : Int) ≤ 57 ∧ ((c.toNat : Int) == 45) = true ∧ ((c.toNat : Int) == 95) = false)
      ∨ (¬ (97 : Int) ≤ (c.toNat : Int) ∧ (c.toNat : Int) ≤ 122 ∧ (48 : Int) ≤ (c.toNat : Int) ∧ ¬ (c.toNat : Int) ≤ 57 ∧ ((c.toNat : Int) == 45) = false ∧ ((c.toNat : Int) == 95) = true)))
    ∨ (nb c = false ∧ ((¬ (97 : Int) ≤ (c.toNat : Int) ∧ (c.toNat : Int) ≤ 122 ∧ ¬ (48 : Int) ≤ (c.toNat : Int) ∧ (c.toNat : Int) ≤ 57 ∧ ((c.toNat : Int) == 45) = false ∧ ((c.toNat : Int) == 95) = false)
      ∨ (¬ (97 : Int) ≤ (c.toNat : Int) ∧ (c.toNat : Int) ≤ 122 ∧ (48 : Int) ≤ (c.toNat : Int) ∧ ¬ (c.toNat : Int) ≤ 57 ∧ ((c.toNat : Int) == 45) = false ∧ ((c.toNat : Int) == 95) = false)
      ∨ ((97 : Int) ≤ (c.toNat : Int) ∧ ¬ (c.toNat : Int) ≤ 122 ∧ (48 : Int) ≤ (c.toNat : Int) ∧ ¬ (c.toNat : Int) ≤ 57 ∧ ((c.toNat : Int) == 45) = false ∧ ((c.toNat : Int) == 95) = false))) := by
  cases h : nb c
  · simp only [nb, Bool.or_eq_false_iff, Bool.and_eq_false_iff, decide_eq_false_iff_not, beq_eq_false_iff_ne] at h
    refine .inr ⟨rfl, ?_⟩
    simp only [beq_eq_false_iff_ne]
    omega
  · simp only [nb, Bool.or_eq_true, Bool.and_eq_true, decide_eq_true_eq, beq_iff_eq] at h
    refine .inl ⟨rfl, ?_⟩
    simp only [beq_eq_false_iff_ne, beq_iff_eq, and_true]
    omega

set_option maxHeartbeats 4000000 in
theorem refName (s : ByteArray) (hz : s.size ≤ 9223372036854775000) (w : World) :
    Calls Try.prog 54 #[.string s] w fun e w' => e = .returned (.bool (nm s.data.toList)) ∧ w = w' := by
  have hsz := Lib.size_eq s
  have HSZ := Lib.hid hsz
  clear hsz
  go_enter Try.func54, Try.ntmps54
  go_wp2
  go_loopg [3] s.size (fun g vi wx => ∃ k : Nat, vi = .int .i64 (k : Int) ∧ k + g = s.size ∧ Hid ((s.data.toList.take k).all nb = true) ∧ w = wx)
  case atStart => exact ⟨0, rfl, by omega, by simp [Hid], rfl⟩
  case round =>
    obtain ⟨k, rfl, hk, HA, rfl⟩ := hrel
    by_cases hlt : k < s.size
    · have HT := Lib.hid (take_at s k hlt)
      have hfalse : nb s[k] = false → nm s.data.toList = false := fun h => by
        have h0 : s.data.toList.all nb = false := by
          rw [← List.take_append_drop (k + 1) s.data.toList, HT.out]
          simp [h]
        simp [nm, h0]
      have HF := Lib.hid hfalse
      have htrue : nb s[k] = true → (s.data.toList.take (k + 1)).all nb = true := fun h => by
        rw [HT.out, List.all_append, HA.out]
        simp [h]
      have HTR := Lib.hid htrue
      clear hfalse htrue
      obtain ⟨c, hc⟩ : ∃ c, s[k] = c := ⟨_, rfl⟩
      rw [hc] at HF HTR
      rcases nb_cases c with ⟨hn, h | h | h | h⟩ | ⟨hn, h | h | h⟩
      all_goals obtain ⟨t1, t2, t3, t4, t5, t6⟩ := h
      all_goals
        go_wp2
        first
        | (go_roundg (gk - 1)
           (case measure => omega)
           (case rel => exact ⟨k + 1, by simp, by omega, HTR.out hn, rfl⟩))
        | (go_ret
           exact ⟨by rw [HF.out hn] <;> rfl, rfl⟩)
    · have hlt' : ¬ (k : Int) < (s.size : Int) := by omega
      have hkn : k = s.size := by omega
      have hall : s.data.toList.all nb = true := by
        have := HA.out
        rwa [hkn, HSZ.out, List.take_length] at this
      have hv : nm s.data.toList = (decide ((1 : Int) ≤ s.size) && decide ((s.size : Int) ≤ 8)) := by
        rw [nm, hall, Bool.and_true, HSZ.out]
        rw [Bool.eq_iff_iff]
        simp
        omega
      have HV := Lib.hid hv
      clear hv hall
      go_wp2
      all_goals
        go_ret
        refine ⟨?_, rfl⟩
        rw [HV.out]
        first
        | (simp [*]; done)
        | (simp [*]; omega)

/-- the state of Split's loop: done are the pieces behind us, f is where the piece at hand begins, i where we look -/
structure Spl (w : World) (l : List UInt8) (i f : Nat) (done : List ByteArray) (v : Value) (wx : World) : Prop where
  own : wx.ownsRow w.heap.size 9 1 v done.length (done.map Value.string)
  below : Below w.heap.size w wx
  six : done.length ≤ 6
  names : ∀ y ∈ done, nm y.data.toList = true
  fi : f ≤ i
  f1 : 1 ≤ f
  rest : i ≤ l.length → pcs l = lists done ++ spl (l.drop f) ∧ 47 ∉ (l.drop f).take (i - f)
  gone : ¬ i ≤ l.length → pcs l = lists done

theorem spl_at {l : List UInt8} {i f : Nat} (hf : f ≤ i) (hi : i ≤ l.length) (h0 : 47 ∉ (l.drop f).take (i - f)) (h : i = l.length ∨ l[i]? = some 47) :
    spl (l.drop f) = (l.drop f).take (i - f) :: (if i = l.length then [] else spl (l.drop (i + 1))) := by
  by_cases he : i = l.length
  · rw [if_pos he]
    have e : (l.drop f).take (i - f) = l.drop f := List.take_of_length_le (by rw [List.length_drop]; omega)
    rw [e] at h0 ⊢
    exact spl_noslash _ h0
  · rw [if_neg he]
    have h47 := h.resolve_left he
    have hlt : i < l.length := by omega
    have e : l.drop f = (l.drop f).take (i - f) ++ 47 :: l.drop (i + 1) := by
      have e1 : (l.drop f).drop (i - f) = 47 :: l.drop (i + 1) := by
        rw [List.drop_drop, show f + (i - f) = i by omega]
        rw [List.getElem?_eq_getElem hlt] at h47
        rw [← Option.some.inj h47, List.getElem_cons_drop]
      rw [← e1, List.take_append_drop]
    conv => lhs; rw [e]
    exact spl_cut _ _ h0
theorem not_good {l : List UInt8} {done : List ByteArray} {x : List UInt8} {more : List (List UInt8)} (h : pcs l = lists done ++ x :: more) (hb : nm x = false ∨ done.length = 6) : ¬ isP l := fun hp => by
  rcases hb with hb | hb
  · have := hp.2.2 x (by rw [h]; simp)
    rw [this] at hb
    cases hb
  · have := hp.2.1
    rw [h] at this
    simp [lists] at this
    omega
theorem own_block {w : World} {B : Nat} {e : TypeId} {v : Value} {n : Nat} {xs : List Value} (h : w.ownsRow B e 1 v n xs) : ∀ k, v.ownBlock = some k → B ≤ k := fun k hk => by
  obtain ⟨_, ⟨rfl, _⟩ | ⟨g, cap, cur, rfl, hg, _⟩⟩ := h
  · cases hk
  · simp [Value.ownBlock] at hk
    omega

set_option maxRecDepth 100000 in
set_option maxHeartbeats 8000000 in
theorem refSplit_slash (p : ByteArray) (hz : p.size ≤ 100000) (hh : p.data.toList.head? = some 47) (hne : p.data.toList ≠ [47]) (w : World) :
    Calls Try.prog 42 #[.string p] w fun e w' => ((isP p.data.toList ∧ ∃ a cap, e = .returned (.tuple #[.slice a (prts p).length cap, .bool true]) ∧ Row w' a cap (prts p)) ∨ (¬ isP p.data.toList ∧ e = .returned (.tuple #[.slice none 0 0, .bool false]))) ∧ Below w.heap.size w w' := by
  obtain ⟨i0, hi, hz0, hz1, hz2⟩ := info_parts infoS
  have HI := Lib.hid hi
  have HZ0 := Lib.hid hz0
  have HZ1 := Lib.hid hz1
  have HZ2 := Lib.hid hz2
  have hs' : (p.toList == [47]) = false := by rw [eq_slash]; simpa using hne
  have hsz := Lib.size_eq p
  obtain ⟨r, hcr⟩ : ∃ r, p.data.toList = 47 :: r := by
    cases h : p.data.toList with
    | nil => rw [h] at hh; cases hh
    | cons c r => rw [h] at hh; obtain rfl : c = 47 := by simpa using hh
                  exact ⟨r, rfl⟩
  have hpos : 0 < p.size := by rw [hsz, hcr]; simp
  have hp0 : (p[0]'hpos) = 47 := by
    have := at_eq p 0 hpos
    rw [hcr] at this
    simpa using this.symm
  have hp00 : (((p[0]'hpos).toNat : Int) == 47) = true := by rw [hp0]; rfl
  have hp01 : (((p[0]'hpos).toNat : Int) != 47) = false := by simp only [bne, hp00]; rfl
  have hn0 : ((p.size : Int) == 0) = false := by rw [beq_eq_false_iff_ne]; omega
  have hrne : r ≠ [] := fun e => hne (by rw [hcr, e])
  have H0 : Hid (Spl w p.data.toList 1 1 [] (.slice none 0 0) w) := ⟨World.ownsRow_nil _ _ _ _, Below.refl _ _, by simp, by simp, by omega, by omega, fun _ => by rw [hcr, pcs, if_neg hrne]; simp [lists], fun h => by rw [← hsz] at h; omega⟩
  have HH := Lib.hid hh
  have HSZ := Lib.hid hsz
  clear hi hz0 hz1 hz2 hh hne hsz hcr hrne hp0
  go_enter Try.func42, Try.ntmps42
  go_wp2
  go_loopg [4, 5, 6] p.size (fun g v4 v5 v6 wx => ∃ (i f : Nat) (done : List ByteArray) (a : Option Addr) (cap : Nat), v4 = .slice a done.length cap ∧ v5 = .int .i64 (f : Int) ∧ v6 = .int .i64 (i : Int) ∧ i + g = p.size + 1 ∧ Hid (Spl w p.data.toList i f done (.slice a done.length cap) wx))
  case atStart => exact ⟨1, 1, [], none, 0, rfl, rfl, rfl, by omega, H0.out⟩
  case round =>
    clear H0
    obtain ⟨i, f, done, a, cap, rfl, rfl, rfl, hg, HS⟩ := hrel
    by_cases hle : i ≤ p.size
    · have hle' : (i : Int) ≤ (p.size : Int) := by omega
      have hw : IntKind.i64.wrap ((i : Int) + 1) = (i : Int) + 1 := IntWalk.i64_in _ (by omega)
      have hfi := HS.out.fi
      have hfi' : (f : Int) ≤ (i : Int) := by omega
      have hf0 : (0 : Int) ≤ (f : Int) := by omega
      have h6 := HS.out.six
      have hrest := HS.out.rest (by rw [← HSZ.out]; exact hle)
      have HREST := Lib.hid hrest
      have hpx : (p.extract f i).data.toList = (p.data.toList.drop f).take (i - f) := Lib.extract_data p f i
      have HPX := Lib.hid hpx
      clear hrest hpx
      -- a piece ends here, or none does
      by_cases hend : i = p.size ∨ p.data.toList[i]? = some 47
      · have hsp := spl_at hfi (by rw [← HSZ.out]; exact hle) HREST.out.2 (by rw [← HSZ.out]; exact hend)
        have hpc : pcs p.data.toList = lists done ++ (p.extract f i).data.toList :: (if i = p.data.toList.length then [] else spl (p.data.toList.drop (i + 1))) := by rw [HPX.out, ← hsp]; exact HREST.out.1
        have HPC := Lib.hid hpc
        clear hsp hpc
        have hxs : (p.extract f i).size ≤ 9223372036854775000 := by
          rw [Lib.size_eq, HPX.out]
          simp
          omega
        have HXS := Lib.hid hxs
        clear hxs
        have htest : (((i : Int) == (p.size : Int)) = true) ∨ ((((i : Int) == (p.size : Int)) = false) ∧ ∃ h : i < p.size, (((p[i]'h).toNat : Int) == 47) = true) := by
          by_cases he : i = p.size
          · exact .inl (by rw [he]; simp)
          · refine .inr ⟨by simp; omega, by omega, ?_⟩
            have := at_eq p i (by omega)
            rw [hend.resolve_left he] at this
            rw [← Option.some.inj this]
            rfl
        clear hend
        rcases htest with ht | ⟨ht, hilt, ht2⟩
        · go_wp2_with fail
          refine (refName (p.extract f i) HXS.out _).mono ?_
          rintro e w2 ⟨rfl, rfl⟩
          cases hn : nm (p.extract f i).data.toList with
          | false =>
            have HNG := Lib.hid (not_good HPC.out (.inl hn))
            go_wp2
            go_ret2
            exact ⟨.inr ⟨HNG.out, rfl⟩, HS.out.below⟩
          | true =>
            by_cases hd6 : done.length = 6
            · have HNG := Lib.hid (not_good HPC.out (.inr hd6))
              have hd6' : ((done.length : Int) == 6) = true := by rw [hd6]; rfl
              go_wp2
              go_ret2
              exact ⟨.inr ⟨HNG.out, rfl⟩, HS.out.below⟩
            · have hd6' : ((done.length : Int) == 6) = false := by simp; omega
              go_wp2_with (at_builtin; refine wpList_append_own _ rfl _ _ 62 rfl w.heap.size 9 i0 (.string ⟨#[]⟩) 1 16 Try.underlying62 HI.out HZ0.out HZ1.out HZ2.out rfl (by decide) _ _ _ rfl (HS.out.own.alloc _) ⟨wr.heap.size, 0, none⟩ 1 1 [.string (p.extract f i)] rfl rfl (cell_one_new _ _ _) ?c2 ?c3 ?c4 ?c5 ?_)
              case c2 => intro u hu; simp at hu; subst hu; rfl
              case c3 => unfold maxLen; omega
              case c4 => omega
              case c5 => have := HS.out.below.size; simp; omega
              · intro v' w3 hown' hgrow _
                obtain ⟨g', cap', rfl⟩ := ownsRow_succ hown'
                have hnext : Spl w p.data.toList (i + 1) (i + 1) (done ++ [p.extract f i]) (.slice (some ⟨g', 0, none⟩) (done.length + 1) cap') w3 := by
                  refine ⟨by simpa using hown', (HS.out.below.alloc HS.out.below.size _).grown hgrow (by have := HS.out.below.size; simp; omega) (own_block HS.out.own), by simp; omega, ?_, Nat.le_refl _, by omega, ?_, ?_⟩
                  · intro y hy
                    rcases List.mem_append.1 hy with hy | hy
                    · exact HS.out.names y hy
                    · obtain rfl : y = p.extract f i := by simpa using hy
                      exact hn
                  · intro hle2
                    have hne2 : i ≠ p.data.toList.length := by omega
                    have := HPC.out
                    rw [if_neg hne2] at this
                    exact ⟨by rw [this]; simp [lists], by simp⟩
                  · intro hle2
                    have hne2 : i = p.data.toList.length := by have := HSZ.out; omega
                    have := HPC.out
                    rw [if_pos hne2] at this
                    rw [this]
                    simp [lists]
                have HNX := Lib.hid hnext
                clear hnext hown' hgrow
                go_wp2
                go_roundg (gk - 1)
                case measure => omega
                case rel => exact ⟨i + 1, i + 1, done ++ [p.extract f i], some ⟨g', 0, none⟩, cap', by simp, by simp, by simp, by omega, by show Spl _ _ _ _ _ _ _; have := HNX.out; simpa using this⟩
        · go_wp2_with fail
          refine (refName (p.extract f i) HXS.out _).mono ?_
          rintro e w2 ⟨rfl, rfl⟩
          cases hn : nm (p.extract f i).data.toList with
          | false =>
            have HNG := Lib.hid (not_good HPC.out (.inl hn))
            go_wp2
            go_ret2
            exact ⟨.inr ⟨HNG.out, rfl⟩, HS.out.below⟩
          | true =>
            by_cases hd6 : done.length = 6
            · have HNG := Lib.hid (not_good HPC.out (.inr hd6))
              have hd6' : ((done.length : Int) == 6) = true := by rw [hd6]; rfl
              go_wp2
              go_ret2
              exact ⟨.inr ⟨HNG.out, rfl⟩, HS.out.below⟩
            · have hd6' : ((done.length : Int) == 6) = false := by simp; omega
              go_wp2_with (at_builtin; refine wpList_append_own _ rfl _ _ 62 rfl w.heap.size 9 i0 (.string ⟨#[]⟩) 1 16 Try.underlying62 HI.out HZ0.out HZ1.out HZ2.out rfl (by decide) _ _ _ rfl (HS.out.own.alloc _) ⟨wr.heap.size, 0, none⟩ 1 1 [.string (p.extract f i)] rfl rfl (cell_one_new _ _ _) ?c2 ?c3 ?c4 ?c5 ?_)
              case c2 => intro u hu; simp at hu; subst hu; rfl
              case c3 => unfold maxLen; omega
              case c4 => omega
              case c5 => have := HS.out.below.size; simp; omega
              · intro v' w3 hown' hgrow _
                obtain ⟨g', cap', rfl⟩ := ownsRow_succ hown'
                have hnext : Spl w p.data.toList (i + 1) (i + 1) (done ++ [p.extract f i]) (.slice (some ⟨g', 0, none⟩) (done.length + 1) cap') w3 := by
                  refine ⟨by simpa using hown', (HS.out.below.alloc HS.out.below.size _).grown hgrow (by have := HS.out.below.size; simp; omega) (own_block HS.out.own), by simp; omega, ?_, Nat.le_refl _, by omega, ?_, ?_⟩
                  · intro y hy
                    rcases List.mem_append.1 hy with hy | hy
                    · exact HS.out.names y hy
                    · obtain rfl : y = p.extract f i := by simpa using hy
                      exact hn
                  · intro hle2
                    have hne2 : i ≠ p.data.toList.length := by omega
                    have := HPC.out
                    rw [if_neg hne2] at this
                    exact ⟨by rw [this]; simp [lists], by simp⟩
                  · intro hle2
                    have hne2 : i = p.data.toList.length := by have := HSZ.out; omega
                    have := HPC.out
                    rw [if_pos hne2] at this
                    rw [this]
                    simp [lists]
                have HNX := Lib.hid hnext
                clear hnext hown' hgrow
                go_wp2
                go_roundg (gk - 1)
                case measure => omega
                case rel => exact ⟨i + 1, i + 1, done ++ [p.extract f i], some ⟨g', 0, none⟩, cap', by simp, by simp, by simp, by omega, by show Spl _ _ _ _ _ _ _; have := HNX.out; simpa using this⟩
      · have hilt : i < p.size := by
          have := fun h => hend (.inl h)
          omega
        have hne47 : (((p[i]'hilt).toNat : Int) == 47) = false := by
          rw [beq_eq_false_iff_ne]
          intro e
          refine hend (.inr ?_)
          rw [at_eq p i hilt]
          congr 1
          apply UInt8.toNat_inj.1
          show _ = 47
          omega
        have hii : ((i : Int) == (p.size : Int)) = false := by simp; omega
        have hnext : Spl w p.data.toList (i + 1) f done (.slice a done.length cap) wr := by
          refine ⟨HS.out.own, HS.out.below, HS.out.six, HS.out.names, by omega, HS.out.f1, fun _ => ⟨HREST.out.1, ?_⟩, fun h => absurd (by rw [← HSZ.out]; omega) h⟩
          have e1 : (p.data.toList.drop f)[i - f]? = some p[i] := by rw [List.getElem?_drop, show f + (i - f) = i by omega]; exact at_eq p i hilt
          rw [show i + 1 - f = (i - f) + 1 by omega, List.take_add_one, e1]
          intro hm
          rcases List.mem_append.1 hm with hm | hm
          · exact HREST.out.2 hm
          · have h47 : 47 = p[i] := by simpa using hm
            rw [← h47] at hne47
            simp at hne47
        have HNX := Lib.hid hnext
        clear hnext hend
        go_wp2
        go_roundg (gk - 1)
        case measure => omega
        case rel => exact ⟨i + 1, f, done, a, cap, rfl, rfl, by simp, by omega, HNX.out⟩
    · have hle' : ¬ (i : Int) ≤ (p.size : Int) := by omega
      have hgone := HS.out.gone (by rw [← HSZ.out]; exact hle)
      have hdone : prts p = done := by
        rw [prts, hgone, lists, List.map_map]
        conv => rhs; rw [← List.map_id done]
        exact List.map_congr_left fun s _ => bs_data s
      have hP : isP p.data.toList := ⟨HH.out, by rw [hgone]; simpa [lists] using HS.out.six, by
        rw [hgone]
        intro x hx
        obtain ⟨y, hy, rfl⟩ := List.mem_map.1 hx
        exact HS.out.names y hy⟩
      obtain ⟨a2, cap2, he, hrow⟩ := row_of_owns HS.out.own
      have HP := Lib.hid hP
      have HD := Lib.hid hdone
      have HROW := Lib.hid hrow
      have HE := Lib.hid he
      clear hP hdone hrow he hgone
      go_wp2
      go_ret2
      refine ⟨.inl ⟨HP.out, a, cap, ?_, ?_⟩, HS.out.below⟩
      · rw [HD.out]; rfl
      · rw [HD.out]
        obtain ⟨rfl, _, rfl⟩ : a = a2 ∧ done.length = done.length ∧ cap = cap2 := by simpa using HE.out
        exact HROW.out
end Go.Proofs.Ytkannambildnoaa

namespace Go.Proofs.Ytkannambildnoaa
open Go.RowKit

/-- a path's names; none of what is no path -/
def names (p : ByteArray) : List ByteArray := if isP p.data.toList then prts p else []
theorem names_pos {p : ByteArray} (h : isP p.data.toList) : names p = prts p := if_pos h
theorem names_neg {p : ByteArray} (h : ¬ isP p.data.toList) : names p = [] := if_neg h
theorem row_nil (w : World) (a : Option Addr) (cap : Nat) : Row w a cap [] := ⟨by simp, .inl rfl⟩
theorem names_len (p : ByteArray) : (names p).length ≤ 6 := by
  by_cases h : isP p.data.toList
  · rw [names_pos h]
    simpa [prts] using h.2.1
  · rw [names_neg h]
    simp

set_option maxHeartbeats 2000000 in
theorem refSplit_any (p : ByteArray) (hz : p.size ≤ 100000) (w : World) :
    Calls Try.prog 42 #[.string p] w fun e w' => ∃ a cap, e = .returned (.tuple #[.slice a (names p).length cap, .bool (decide (isP p.data.toList))]) ∧ Row w' a cap (names p) ∧ Below w.heap.size w w' := by
  by_cases h47 : p.data.toList = [47]
  · obtain rfl := of_data h47
    have hn : names (⟨[47].toArray⟩ : ByteArray) = [] := by decide
    have hP : decide (isP (⟨[47].toArray⟩ : ByteArray).data.toList) = true := by decide
    rw [hn, hP]
    go_enter Try.func42, Try.ntmps42
    go_wp2
    go_ret2
    exact ⟨none, 0, rfl, row_nil _ _ _, Below.refl _ _⟩
  · by_cases hh : p.data.toList.head? = some 47
    · refine (refSplit_slash p hz hh h47 w).mono ?_
      rintro e w' ⟨⟨hP, a, cap, he, hr⟩ | ⟨hP, he⟩, hb⟩
      · rw [names_pos hP, decide_eq_true hP]
        exact ⟨a, cap, he, hr, hb⟩
      · rw [names_neg hP, decide_eq_false hP]
        exact ⟨none, 0, he, row_nil _ _ _, hb⟩
    · have hP : ¬ isP p.data.toList := fun h => hh h.1
      rw [names_neg hP, decide_eq_false hP]
      have hs' : (p.toList == [47]) = false := by rw [eq_slash]; simpa using h47
      by_cases h0 : p.size = 0
      · have hp : p = ⟨#[]⟩ := by
          have : p.data.toList = [] := List.length_eq_zero_iff.1 (by rw [← Lib.size_eq]; exact h0)
          rw [← Lib.mk_data p, this]
        subst hp
        go_enter Try.func42, Try.ntmps42
        go_wp2
        go_ret2
        exact ⟨none, 0, rfl, row_nil _ _ _, Below.refl _ _⟩
      · have hpos : 0 < p.size := by omega
        have hn0 : ((p.size : Int) == 0) = false := by rw [beq_eq_false_iff_ne]; omega
        have hc0 : (((p[0]'hpos).toNat : Int) != 47) = true := by
          rw [bne_iff_ne]
          intro e
          refine hh ?_
          have h1 := at_eq p 0 hpos
          rw [List.head?_eq_getElem?, h1]
          congr 1
          apply UInt8.toNat_inj.1
          show _ = 47
          omega
        have hc1 : ¬ ((p[0]'hpos).toNat : Int) = 47 := by simpa using hc0
        clear hh hP h47
        go_enter Try.func42, Try.ntmps42
        go_wp2
        go_ret2
        exact ⟨none, 0, rfl, row_nil _ _ _, Below.refl _ _⟩
end Go.Proofs.Ytkannambildnoaa

namespace Go.Proofs.Ytkannambildnoaa
open Go.RowKit

end Go.Proofs.Ytkannambildnoaa

namespace Go.Proofs.Ytkannambildnoaa
open Go.RowKit

/-- A number's bytes: its digits of 7 bits, the lowest first, each but the last one with 128 added. -/
def dg (n : Nat) : List UInt8 := if n < 128 then [UInt8.ofNat n] else UInt8.ofNat (n % 128 + 128) :: dg (n / 128)
termination_by n
decreasing_by omega

theorem dg_last {n : Nat} (h : n < 128) : dg n = [UInt8.ofNat n] := by rw [dg, if_pos h]
theorem dg_more {n : Nat} (h : ¬ n < 128) : dg n = UInt8.ofNat (n % 128 + 128) :: dg (n / 128) := by rw [dg, if_neg h]
theorem ofNat_toNat {n : Nat} (h : n < 256) : (UInt8.ofNat n).toNat = n := by rw [UInt8.toNat_ofNat']; exact Nat.mod_eq_of_lt h

theorem dg_pos (n : Nat) : 1 ≤ (dg n).length := by
  by_cases h : n < 128
  · rw [dg_last h]; simp
  · rw [dg_more h]; simp
theorem dg_le : ∀ (k n : Nat), n < 128 ^ (k + 1) → (dg n).length ≤ k + 1
  | 0, n, h => by rw [dg_last (by simpa using h)]; simp
  | k + 1, n, h => by
    by_cases h1 : n < 128
    · rw [dg_last h1]; simp
    · rw [dg_more h1, List.length_cons]
      have := dg_le k (n / 128) (by rw [Nat.div_lt_iff_lt_mul (by decide)]; rw [Nat.pow_succ] at h; exact h)
      omega
theorem dg_nine {n : Nat} (h : n ≤ 4611686018427387904) : (dg n).length ≤ 9 := dg_le 8 n (by omega)
theorem dg_mono : ∀ (a b : Nat), a ≤ b → (dg a).length ≤ (dg b).length := by
  intro a
  induction a using Nat.strongRecOn with
  | _ a ih =>
    intro b h
    by_cases h1 : a < 128
    · rw [dg_last h1]; exact dg_pos b
    · have h2 : ¬ b < 128 := by omega
      rw [dg_more h1, dg_more h2, List.length_cons, List.length_cons]
      have := ih (a / 128) (by omega) (b / 128) (Nat.div_le_div_right h)
      omega
theorem dg_cut : ∀ (a b : Nat) (x y : List UInt8), dg a ++ x = dg b ++ y → a = b ∧ x = y := by
  intro a
  induction a using Nat.strongRecOn with
  | _ a ih =>
    intro b x y h
    by_cases h1 : a < 128
    · by_cases h2 : b < 128
      · rw [dg_last h1, dg_last h2] at h
        simp only [List.cons_append, List.nil_append, List.cons.injEq] at h
        have e := congrArg UInt8.toNat h.1
        rw [ofNat_toNat (by omega), ofNat_toNat (by omega)] at e
        exact ⟨e, h.2⟩
      · rw [dg_last h1, dg_more h2] at h
        simp only [List.cons_append, List.nil_append, List.cons.injEq] at h
        have e := congrArg UInt8.toNat h.1
        rw [ofNat_toNat (by omega), ofNat_toNat (by omega)] at e
        omega
    · by_cases h2 : b < 128
      · rw [dg_more h1, dg_last h2] at h
        simp only [List.cons_append, List.nil_append, List.cons.injEq] at h
        have e := congrArg UInt8.toNat h.1
        rw [ofNat_toNat (by omega), ofNat_toNat (by omega)] at e
        omega
      · rw [dg_more h1, dg_more h2] at h
        simp only [List.cons_append, List.cons.injEq] at h
        have e := congrArg UInt8.toNat h.1
        rw [ofNat_toNat (by omega), ofNat_toNat (by omega)] at e
        obtain ⟨e2, e3⟩ := ih (a / 128) (by omega) (b / 128) x y h.2
        exact ⟨by omega, e3⟩
theorem dg_inj {a b : Nat} (h : dg a = dg b) : a = b := (dg_cut a b [] [] (by rw [h])).1

/-- The bytes as a text. -/
def numB (n : Nat) : ByteArray := ⟨(dg n).toArray⟩
theorem numB_list (n : Nat) : (numB n).data.toList = dg n := by simp [numB]
theorem numB_size (n : Nat) : (numB n).size = (dg n).length := rfl
theorem numB_size_nine {n : Nat} (h : n ≤ 4611686018427387904) : (numB n).size ≤ 9 := dg_nine h
theorem numB_size_pos (n : Nat) : 1 ≤ (numB n).size := dg_pos n
theorem numB_inj {a b : Nat} (h : numB a = numB b) : a = b := dg_inj (by rw [← numB_list, h, numB_list])

/-- The lowest 62 bits of any number. -/
theorem low62 (a : Int) : ∃ x : Nat, bits .and .i64 a 4611686018427387903 = (x : Int) ∧ x < 4611686018427387904 := by
  have h : (BitVec.ofInt 64 a &&& BitVec.ofInt 64 4611686018427387903).toNat ≤ 4611686018427387903 := by
    rw [BitVec.toNat_and]
    exact Nat.le_trans Nat.and_le_right (by decide)
  refine ⟨(BitVec.ofInt 64 a &&& BitVec.ofInt 64 4611686018427387903).toNat, ?_, by omega⟩
  show IntKind.i64.wrap ((BitVec.ofInt 64 a &&& BitVec.ofInt 64 4611686018427387903).toNat : Int) = _
  exact IntWalk.i64_in _ (by omega)
end Go.Proofs.Ytkannambildnoaa

namespace Go.Proofs.Ytkannambildnoaa
open Go.RowKit

theorem infoByte : (Try.prog.info? 5).map (fun i => (i.zero, i.size, i.bytes)) = some (some (.int .u8 0), 1, 1) := by kernel_rfl

/-- Bytes as cells. -/
def cells8 (l : List UInt8) : List Value := l.map fun c => .int .u8 (c.toNat : Int)

theorem own_block8 {w : World} {B : Nat} {e : TypeId} {v : Value} {n : Nat} {xs : List Value} (h : w.ownsRow B e 1 v n xs) : ∀ k, v.ownBlock = some k → B ≤ k := fun k hk => by
  obtain ⟨_, ⟨rfl, _⟩ | ⟨g, cap, cur, rfl, hg, _⟩⟩ := h
  · cases hk
  · simp [Value.ownBlock] at hk
    omega

end Go.Proofs.Ytkannambildnoaa

namespace Go.Proofs.Ytkannambildnoaa
open Go.RowKit

theorem strOf_one (c : Nat) : (strOfNums [(c : Int)]).data.toList = [UInt8.ofNat c] := by
  simp [strOfNums]
end Go.Proofs.Ytkannambildnoaa

namespace Go.Proofs.Ytkannambildnoaa
open Go.RowKit

/-- An entry as a value. -/
abbrev entV (p : ByteArray) (k : Int) (d : ByteArray) : Value := .agg #[.string p, .int .i64 k, .string d]
/-- Is an entry right? -/
def rightE (p : ByteArray) (k : Int) (d : ByteArray) : Bool := decide (1 ≤ dp p.data.toList) && (((k == 1) && decide (d.size ≤ 256)) || (decide (2 ≤ k ∧ k ≤ 4) && decide (d.size = 0)))
theorem names_dp (p : ByteArray) : (isP p.data.toList ∧ ¬ (names p).length = 0) ↔ 1 ≤ dp p.data.toList := by
  constructor
  · rintro ⟨h, h0⟩
    rw [dp_pos h]
    rw [names_pos h] at h0
    simp [prts] at h0
    have : (pcs p.data.toList).length ≠ 0 := fun e => h0 (List.length_eq_zero_iff.1 e)
    omega
  · intro h
    have hp : isP p.data.toList := by
      by_cases hp : isP p.data.toList
      · exact hp
      · rw [dp_neg hp] at h
        omega
    refine ⟨hp, ?_⟩
    rw [names_pos hp]
    rw [dp_pos hp] at h
    simp [prts]
    intro e
    rw [e] at h
    simp at h
theorem size_beq (d : ByteArray) : (d.toList == []) = decide (d.size = 0) := by
  rw [Lib.toList_data, Lib.size_eq, Bool.eq_iff_iff]
  rw [beq_iff_eq, decide_eq_true_iff, List.length_eq_zero_iff]
set_option maxRecDepth 10000 in
set_option maxHeartbeats 1000000 in
theorem refRight_any (p : ByteArray) (k : Int) (d : ByteArray) (hz : p.size ≤ 100000) (w : World) : Calls Try.prog 29 #[entV p k d] w fun e w' => e = .returned (.bool (rightE p k d)) ∧ Below w.heap.size w w' := by
  obtain ⟨W, hW⟩ : ∃ W, w.alloc (.cells #[.string p, .int .i64 k, .string d] 34) = W := ⟨_, rfl⟩
  obtain ⟨N, hN⟩ : ∃ N, w.heap.size = N := ⟨_, rfl⟩
  have hb : Below N w W := by rw [← hW, ← hN]; exact (Below.refl _ _).alloc (Nat.le_refl _) _
  have hlt : N < W.heap.size := by rw [← hW, ← hN]; simp
  have c0 : W.cell? ⟨N, 0, none⟩ = some (.string p) := by rw [← hW, ← hN]; simp
  have c1 : W.cell? ⟨N, 1, none⟩ = some (.int .i64 k) := by rw [← hW, ← hN]; simp
  have c2 : W.cell? ⟨N, 2, none⟩ = some (.string d) := by rw [← hW, ← hN]; simp
  have HB := Lib.hid hb
  have HLT := Lib.hid hlt
  have HC := Lib.hid (And.intro c1 c2)
  have HND := Lib.hid (names_dp p)
  have HZ := Lib.hid hz
  have HSB := Lib.hid (size_beq d)
  clear hb hlt c1 c2 hz
  go_enter Try.func29, Try.ntmps29
  go_wp2_with fail
  refine (refSplit_any p HZ.out _).mono ?_
  rintro e w1 ⟨a, cap, rfl, _, hb1⟩
  have d1 : w1.cell? ⟨N, 1, none⟩ = some (.int .i64 k) := (hb1.cell (p := ⟨N, 1, none⟩) HLT.out).trans HC.out.1
  have d2 : w1.cell? ⟨N, 2, none⟩ = some (.string d) := (hb1.cell (p := ⟨N, 2, none⟩) HLT.out).trans HC.out.2
  have HB1 := Lib.hid (show Below N w w1 from HB.out.trans (hb1.mono (Nat.le_of_lt HLT.out)))
  clear hb1 c0 hW
  obtain ⟨nl, hnl⟩ : ∃ nl, (names p).length = nl := ⟨_, rfl⟩
  rw [hnl] at HND ⊢
  clear hnl
  by_cases hP : isP p.data.toList
  · rw [decide_eq_true hP]
    by_cases h0 : nl = 0
    · have hR : rightE p k d = false := by
        unfold rightE
        rw [decide_eq_false (fun h => (HND.out.2 h).2 h0), Bool.false_and]
      have HRR := Lib.hid hR
      have h0' : ((nl : Int) == 0) = true := by rw [h0]; rfl
      clear hP h0 hR
      go_wp2
      go_ret
      exact ⟨by rw [HRR.out]; first | rfl | (simp; done) | (simp; omega), by first | exact HB1.out | (rw [hN]; exact HB1.out)⟩
    · have hD : 1 ≤ dp p.data.toList := HND.out.1 ⟨hP, h0⟩
      have h0' : ((nl : Int) == 0) = false := beq_eq_false_iff_ne.2 (by omega)
      by_cases h1 : k = 1
      · have h1' : ((k : Int) == 1) = true := by rw [h1]; rfl
        have hR : rightE p k d = decide (d.size ≤ 256) := by
          unfold rightE
          rw [decide_eq_true hD, h1]
          simp
        have HRR := Lib.hid hR
        clear hP h0 hR hD h1
        go_wp2
        go_ret
        exact ⟨by rw [HRR.out]; first | rfl | (simp; done) | (simp; omega), by first | exact HB1.out | (rw [hN]; exact HB1.out)⟩
      · have h1' : ((k : Int) == 1) = false := beq_eq_false_iff_ne.2 h1
        have hR : rightE p k d = (decide (2 ≤ k ∧ k ≤ 4) && (d.toList == [])) := by
          unfold rightE
          rw [decide_eq_true hD, h1', HSB.out]
          simp
        by_cases h2 : 2 ≤ k
        · by_cases h3 : k ≤ 4
          · rw [decide_eq_true ⟨h2, h3⟩, Bool.true_and] at hR
            have HRR := Lib.hid hR
            clear hP h0 hR hD h1
            go_wp2
            go_ret
            exact ⟨by rw [HRR.out]; first | rfl | (simp; done) | (simp; omega), by first | exact HB1.out | (rw [hN]; exact HB1.out)⟩
          · rw [decide_eq_false (fun h => h3 h.2), Bool.false_and] at hR
            have HRR := Lib.hid hR
            clear hP h0 hR hD h1
            go_wp2
            go_ret
            exact ⟨by rw [HRR.out]; first | rfl | (simp; done) | (simp; omega), by first | exact HB1.out | (rw [hN]; exact HB1.out)⟩
        · rw [decide_eq_false (fun h => h2 h.1), Bool.false_and] at hR
          have HRR := Lib.hid hR
          clear hP h0 hR hD h1
          go_wp2
          go_ret
          exact ⟨by rw [HRR.out]; first | rfl | (simp; done) | (simp; omega), by first | exact HB1.out | (rw [hN]; exact HB1.out)⟩
  · rw [decide_eq_false hP]
    have hR : rightE p k d = false := by
      unfold rightE
      rw [decide_eq_false (fun h => hP (HND.out.2 h).1), Bool.false_and]
    have HRR := Lib.hid hR
    clear hP hR
    go_wp2
    go_ret
    exact ⟨by rw [HRR.out]; first | rfl | (simp; done) | (simp; omega), by first | exact HB1.out | (rw [hN]; exact HB1.out)⟩
end Go.Proofs.Ytkannambildnoaa

namespace Go.Proofs.Ytkannambildnoaa
open Go.RowKit

/-- An entry's bytes. -/
def layE (p : ByteArray) (k : Nat) (d : ByteArray) : ByteArray := numB k ++ numB p.size ++ p ++ numB d.size ++ d
theorem below_of {B : Nat} {w w1 w2 : World} (h : Below B w w1) (hb : Below w1.heap.size w1 w2) (hB : B ≤ w1.heap.size) : Below B w w2 := h.trans (hb.mono hB)
theorem lt_cps {P : Prop} {a b : Nat} (h : a < b) (hK : a < b → P) : P := hK h
theorem below_cps {P : Prop} {B : Nat} {w X w1 : World} (hb : Below X.heap.size X w1) (h : Below B w X) (hB : B ≤ X.heap.size) (hK : Below B w w1 → P) : P := hK (h.trans (hb.mono hB))
end Go.Proofs.Ytkannambildnoaa

namespace Go.Proofs.Ytkannambildnoaa
open Go.RowKit

theorem layE_list (p : ByteArray) (k : Nat) (d : ByteArray) : (layE p k d).data.toList = dg k ++ (dg p.size ++ (p.data.toList ++ (dg d.size ++ d.data.toList))) := by
  unfold layE
  simp only [ByteArray.data_append, Array.toList_append, numB_list, List.append_assoc]
theorem ba_ext {a b : ByteArray} (h : a.data.toList = b.data.toList) : a = b := by
  apply ByteArray.ext
  exact Array.ext' h
/-- Two entries' bytes, with anything behind them, are the same only if both are. -/
theorem layE_cut {p q d e : ByteArray} {k m : Nat} {x y : List UInt8} (h : (layE p k d).data.toList ++ x = (layE q m e).data.toList ++ y) : p = q ∧ k = m ∧ d = e ∧ x = y := by
  rw [layE_list, layE_list] at h
  simp only [List.append_assoc] at h
  obtain ⟨rfl, h1⟩ := dg_cut _ _ _ _ h
  obtain ⟨h2, h3⟩ := dg_cut _ _ _ _ h1
  obtain ⟨h4, h5⟩ := List.append_inj h3 (by rw [← Lib.size_eq, ← Lib.size_eq]; exact h2)
  obtain ⟨h6, h7⟩ := dg_cut _ _ _ _ h5
  obtain ⟨h8, h9⟩ := List.append_inj h7 (by rw [← Lib.size_eq, ← Lib.size_eq]; exact h6)
  exact ⟨ba_ext h4, rfl, ba_ext h8, h9⟩
theorem rightE_parts {p d : ByteArray} {k : Int} (h : rightE p k d = true) : 1 ≤ dp p.data.toList ∧ 1 ≤ k ∧ k ≤ 4 ∧ d.size ≤ 256 ∧ (k = 1 ∨ d.size = 0) := by
  unfold rightE at h
  rw [Bool.and_eq_true, decide_eq_true_iff, Bool.or_eq_true, Bool.and_eq_true, Bool.and_eq_true, beq_iff_eq, decide_eq_true_iff, decide_eq_true_iff, decide_eq_true_iff] at h
  omega
theorem rightE_of {p d : ByteArray} {k : Int} (h1 : 1 ≤ dp p.data.toList) (h2 : (k = 1 ∧ d.size ≤ 256) ∨ ((2 ≤ k ∧ k ≤ 4) ∧ d.size = 0)) : rightE p k d = true := by
  unfold rightE
  rw [Bool.and_eq_true, decide_eq_true_iff, Bool.or_eq_true, Bool.and_eq_true, Bool.and_eq_true, beq_iff_eq, decide_eq_true_iff, decide_eq_true_iff, decide_eq_true_iff]
  exact ⟨h1, h2⟩
theorem rightE_iff {p d : ByteArray} {k : Int} : rightE p k d = true ↔ 1 ≤ dp p.data.toList ∧ ((k = 1 ∧ d.size ≤ 256) ∨ ((2 ≤ k ∧ k ≤ 4) ∧ d.size = 0)) := by
  unfold rightE
  rw [Bool.and_eq_true, decide_eq_true_iff, Bool.or_eq_true, Bool.and_eq_true, Bool.and_eq_true, beq_iff_eq, decide_eq_true_iff, decide_eq_true_iff, decide_eq_true_iff]
theorem isP_of_dp {l : List UInt8} (h : 1 ≤ dp l) : isP l := by
  by_cases hp : isP l
  · exact hp
  · rw [dp_neg hp] at h
    omega
/-- A path of names has at most 54 bytes. -/
theorem jn_len : ∀ (ns : List (List UInt8)), (∀ x ∈ ns, x.length ≤ 8) → (jn ns).length ≤ 9 * ns.length
  | [], _ => by simp [jn]
  | x :: r, h => by
    have h1 := h x List.mem_cons_self
    have h2 := jn_len r fun y hy => h y (List.mem_cons_of_mem _ hy)
    have h3 : jn (x :: r) = 47 :: (x ++ jn r) := by simp [jn]
    rw [h3]
    simp
    omega
theorem isP_len {l : List UInt8} (h : isP l) : l.length ≤ 54 := by
  have h6 := h.2.1
  have h8 : ∀ x ∈ pcs l, x.length ≤ 8 := fun x hx => nm_len (h.2.2 x hx)
  rw [← h.eq, pth]
  split
  · decide
  · have := jn_len _ h8
    omega
end Go.Proofs.Ytkannambildnoaa

namespace Go.Proofs.Ytkannambildnoaa
open Go.RowKit

/-- Is a text less, byte by byte? -/
def lt8 (a b : List UInt8) : Bool := Op.bytesLess a b
theorem lt8_irr : ∀ a : List UInt8, lt8 a a = false
  | [] => rfl
  | c :: x => by
    have := lt8_irr x
    show (decide (c < c) || (c == c && Op.bytesLess x x)) = false
    rw [show Op.bytesLess x x = false from this]
    simp
theorem lt8_cons (c d : UInt8) (x y : List UInt8) : lt8 (c :: x) (d :: y) = (decide (c < d) || (c == d && lt8 x y)) := rfl
theorem lt8_trans : ∀ {a b c : List UInt8}, lt8 a b = true → lt8 b c = true → lt8 a c = true
  | [], [], _, h, _ => by cases h
  | [], _ :: _, [], _, h => by cases h
  | [], _ :: _, _ :: _, _, _ => rfl
  | _ :: _, [], _, h, _ => by cases h
  | _ :: _, _ :: _, [], _, h => by cases h
  | p :: x, q :: y, r :: z, h1, h2 => by
    rw [lt8_cons, Bool.or_eq_true, Bool.and_eq_true, decide_eq_true_iff, beq_iff_eq, UInt8.lt_iff_toNat_lt] at *
    rcases h1 with h1 | ⟨rfl, h1⟩
    · rcases h2 with h2 | ⟨rfl, h2⟩
      · exact .inl (by omega)
      · exact .inl h1
    · rcases h2 with h2 | ⟨rfl, h2⟩
      · exact .inl h2
      · exact .inr ⟨rfl, lt8_trans h1 h2⟩
theorem lt8_tri : ∀ a b : List UInt8, a = b ∨ lt8 a b = true ∨ lt8 b a = true
  | [], [] => .inl rfl
  | [], _ :: _ => .inr (.inl rfl)
  | _ :: _, [] => .inr (.inr rfl)
  | p :: x, q :: y => by
    rw [lt8_cons, lt8_cons, Bool.or_eq_true, Bool.and_eq_true, decide_eq_true_iff, beq_iff_eq, Bool.or_eq_true, Bool.and_eq_true, decide_eq_true_iff, beq_iff_eq, UInt8.lt_iff_toNat_lt, UInt8.lt_iff_toNat_lt]
    by_cases h : p = q
    · subst h
      rcases lt8_tri x y with rfl | h | h
      · exact .inl rfl
      · exact .inr (.inl (.inr ⟨rfl, h⟩))
      · exact .inr (.inr (.inr ⟨rfl, h⟩))
    · have : p.toNat ≠ q.toNat := fun e => h (UInt8.toNat_inj.1 e)
      rcases Nat.lt_or_gt_of_ne this with h | h
      · exact .inr (.inl (.inl h))
      · exact .inr (.inr (.inl h))
theorem lt8_asymm {a b : List UInt8} (h : lt8 a b = true) : lt8 b a = false := by
  cases h2 : lt8 b a with
  | false => rfl
  | true => have := lt8_trans h h2; rw [lt8_irr] at this; cases this
theorem lt8_ne {a b : List UInt8} (h : lt8 a b = true) : a ≠ b := fun e => by rw [e, lt8_irr] at h; cases h
theorem lt8_prefix : ∀ {a b : List UInt8}, a <+: b → a.length < b.length → lt8 a b = true
  | [], [], _, h => by simp at h
  | [], _ :: _, _, _ => rfl
  | c :: x, [], h, _ => by simp at h
  | c :: x, d :: y, h, hl => by
    obtain ⟨rfl, h2⟩ := List.cons_prefix_cons.1 h
    have := lt8_prefix h2 (by simpa using hl)
    rw [lt8_cons, this]
    simp
/-- An entry: path, kind, data. -/
abbrev Ent := ByteArray × Int × ByteArray
/-- Its path's bytes. -/
abbrev pl (e : Ent) : List UInt8 := e.1.data.toList
def rE (e : Ent) : Bool := rightE e.1 e.2.1 e.2.2
/-- A directory. -/
def hd (e : Ent) : Bool := e.2.1 == 2 || e.2.1 == 4
/-- A path's directory. -/
def par9 (p : List UInt8) : List UInt8 := pth (pcs p).dropLast
/-- An entry that lies in the root, or whose directory is there. -/
def inD (l : List Ent) (e : Ent) : Prop := par9 (pl e) = [47] ∨ ∃ d ∈ l, pl d = par9 (pl e) ∧ hd d = true
instance (l : List Ent) (e : Ent) : Decidable (inD l e) := inferInstanceAs (Decidable (_ ∨ _))
abbrev Asc (l : List Ent) : Prop := l.Pairwise fun a b => lt8 (pl a) (pl b) = true
/-- A right layer, but for its size. -/
def RL (l : List Ent) : Prop := (∀ e ∈ l, rE e = true) ∧ Asc l ∧ ∀ e ∈ l, inD l e
instance (l : List Ent) : Decidable (RL l) := inferInstanceAs (Decidable (_ ∧ _))
/-- A right layer. -/
def RightL (l : List Ent) : Prop := l.length ≤ 64 ∧ RL l
instance (l : List Ent) : Decidable (RightL l) := inferInstanceAs (Decidable (_ ∧ _))

theorem rE_isP {e : Ent} (h : rE e = true) : isP (pl e) ∧ pl e ≠ [47] := by
  obtain ⟨h1, _⟩ := rightE_parts h
  have hp := isP_of_dp h1
  refine ⟨hp, fun e0 => ?_⟩
  rw [dp_pos hp, (pcs_nil hp).2 e0] at h1
  simp at h1
theorem par9_parts {p : List UInt8} (h : isP p) (h1 : p ≠ [47]) : ∃ ms x, good ms ∧ nm x = true ∧ pcs p = ms ++ [x] ∧ p = jn ms ++ 47 :: x ∧ par9 p = pth ms := by
  obtain ⟨ms, x, a1, a2, a3, a4⟩ := par h h1
  exact ⟨ms, x, a1, a2, a3, a4, by unfold par9; rw [a3, List.dropLast_concat]⟩
theorem und_par9 {p q : List UInt8} (h : isP p) (h1 : p ≠ [47]) : und p q = (decide (q = par9 p) || und (par9 p) q) := by
  obtain ⟨ms, x, a1, _, a3, _, a5⟩ := par9_parts h h1
  rw [a5]
  exact und_parent h a1 a3
theorem par9_lt {p : List UInt8} (h : isP p) (h1 : p ≠ [47]) : lt8 (par9 p) p = true := by
  have h2 := und_par9 (q := par9 p) h h1
  rw [decide_eq_true rfl, Bool.true_or] at h2
  obtain ⟨h3, h4⟩ := und_longer h2
  exact lt8_prefix h3 h4
theorem und_lt {p q : List UInt8} (h : und p q = true) : lt8 q p = true := by
  obtain ⟨h3, h4⟩ := und_longer h
  exact lt8_prefix h3 h4

theorem rl_nil : RL [] := ⟨by simp, List.Pairwise.nil, by simp⟩
theorem asc_snoc {l : List Ent} {e : Ent} : Asc (l ++ [e]) ↔ Asc l ∧ ∀ a ∈ l, lt8 (pl a) (pl e) = true := by
  unfold Asc
  rw [List.pairwise_append]
  simp
theorem asc_last {l : List Ent} {e : Ent} (h : Asc l) : (∀ a ∈ l, lt8 (pl a) (pl e) = true) ↔ ∀ a, l.getLast? = some a → lt8 (pl a) (pl e) = true := by
  constructor
  · intro h2 a ha
    exact h2 a (List.mem_of_getLast? ha)
  · intro h2 a ha
    rcases List.eq_nil_or_concat l with rfl | ⟨r, b, rfl⟩
    · cases ha
    · have hb := h2 b (by simp)
      rw [List.concat_eq_append] at *
      rcases List.mem_append.1 ha with h3 | h3
      · exact lt8_trans ((asc_snoc.1 h).2 a h3) hb
      · obtain rfl : a = b := by simpa using h3
        exact hb
theorem rl_snoc {l : List Ent} {e : Ent} : RL (l ++ [e]) ↔ RL l ∧ rE e = true ∧ (∀ a, l.getLast? = some a → lt8 (pl a) (pl e) = true) ∧ inD l e := by
  constructor
  · rintro ⟨h1, h2, h3⟩
    obtain ⟨h4, h5⟩ := asc_snoc.1 h2
    have he := h1 e (by simp)
    obtain ⟨p1, p2⟩ := rE_isP he
    refine ⟨⟨fun x hx => h1 x (by simp [hx]), h4, fun x hx => ?_⟩, he, (asc_last h4).1 h5, ?_⟩
    · refine (h3 x (by simp [hx])).imp_right ?_
      rintro ⟨d, hd1, hd2, hd3⟩
      rcases List.mem_append.1 hd1 with h | h
      · exact ⟨d, h, hd2, hd3⟩
      · obtain rfl : d = e := by simpa using h
        obtain ⟨q1, q2⟩ := rE_isP (h1 x (by simp [hx]))
        have a1 := par9_lt q1 q2
        rw [← hd2] at a1
        have a2 := lt8_trans a1 (h5 x hx)
        rw [lt8_irr] at a2
        cases a2
    · refine (h3 e (by simp)).imp_right ?_
      rintro ⟨d, hd1, hd2, hd3⟩
      rcases List.mem_append.1 hd1 with h | h
      · exact ⟨d, h, hd2, hd3⟩
      · obtain rfl : d = e := by simpa using h
        have a1 := par9_lt p1 p2
        rw [← hd2, lt8_irr] at a1
        cases a1
  · rintro ⟨⟨h1, h2, h3⟩, h4, h5, h6⟩
    refine ⟨fun x hx => ?_, asc_snoc.2 ⟨h2, (asc_last h2).2 h5⟩, fun x hx => ?_⟩
    · rcases List.mem_append.1 hx with h | h
      · exact h1 x h
      · obtain rfl : x = e := by simpa using h
        exact h4
    · rcases List.mem_append.1 hx with h | h
      · exact (h3 x h).imp_right fun ⟨d, a, b⟩ => ⟨d, by simp [a], b⟩
      · obtain rfl : x = e := by simpa using h
        exact h6.imp_right fun ⟨d, a, b⟩ => ⟨d, by simp [a], b⟩
theorem rl_take {l : List Ent} (h : RL l) (n : Nat) : RL (l.take n) := by
  have key : ∀ k (m : List Ent), m.length = k → ∀ n, RL m → RL (m.take n) := by
    intro k
    induction k with
    | zero => intro m hm n h; rw [List.length_eq_zero_iff.1 hm]; simpa using rl_nil
    | succ k ih =>
      intro m hm n h
      rcases List.eq_nil_or_concat m with rfl | ⟨r, b, rfl⟩
      · simpa using rl_nil
      · rw [List.concat_eq_append] at *
        simp at hm
        by_cases hn : n ≤ r.length
        · rw [List.take_append_of_le_length hn]
          exact ih r hm n (rl_snoc.1 h).1
        · rw [List.take_of_length_le (by simp; omega)]
          exact h
  exact key _ l rfl n h
theorem asc_inj {l : List Ent} (h : Asc l) {a b : Ent} (ha : a ∈ l) (hb : b ∈ l) (e : pl a = pl b) : a = b := by
  induction l with
  | nil => cases ha
  | cons x r ih =>
    obtain ⟨h1, h2⟩ := List.pairwise_cons.1 h
    rcases List.mem_cons.1 ha with e1 | ha'
    · rcases List.mem_cons.1 hb with e2 | hb'
      · rw [e1, e2]
      · have := h1 b hb'; rw [← e1, e, lt8_irr] at this; cases this
    · rcases List.mem_cons.1 hb with e2 | hb'
      · have := h1 a ha'; rw [← e2, e, lt8_irr] at this; cases this
      · exact ih h2 ha' hb'

/-- The entry at a path. -/
def fnd (l : List Ent) (p : List UInt8) : Option Ent := l.find? fun e => decide (pl e = p)
theorem fnd_some {l : List Ent} (h : Asc l) {p : List UInt8} {e : Ent} : fnd l p = some e ↔ e ∈ l ∧ pl e = p := by
  unfold fnd
  constructor
  · intro he
    have h1 := List.find?_some he
    exact ⟨List.mem_of_find?_eq_some he, by simpa using h1⟩
  · rintro ⟨h1, h2⟩
    cases hf : l.find? fun e => decide (pl e = p) with
    | none =>
      have := List.find?_eq_none.1 hf e h1
      simp [h2] at this
    | some x =>
      have h3 := List.find?_some hf
      have h4 : pl x = p := by simpa using h3
      rw [asc_inj h (List.mem_of_find?_eq_some hf) h1 (h4.trans h2.symm)]
theorem fnd_none {l : List Ent} {p : List UInt8} : fnd l p = none ↔ ∀ e ∈ l, pl e ≠ p := by
  unfold fnd
  rw [List.find?_eq_none]
  simp

/-- Entries with one, instead of that at its path. -/
def wth (l : List Ent) (e : Ent) : List Ent := l.filter (fun a => lt8 (pl a) (pl e)) ++ e :: l.filter (fun a => lt8 (pl e) (pl a))
/-- Entries without that at a path. -/
def wout (l : List Ent) (p : List UInt8) : List Ent := l.filter fun a => decide (pl a ≠ p)
theorem mem_wth {l : List Ent} {e x : Ent} : x ∈ wth l e ↔ x = e ∨ x ∈ l ∧ pl x ≠ pl e := by
  unfold wth
  rw [List.mem_append, List.mem_cons, List.mem_filter, List.mem_filter]
  constructor
  · rintro (⟨h1, h2⟩ | rfl | ⟨h1, h2⟩)
    · exact .inr ⟨h1, lt8_ne h2⟩
    · exact .inl rfl
    · exact .inr ⟨h1, (lt8_ne h2).symm⟩
  · rintro (rfl | ⟨h1, h2⟩)
    · exact .inr (.inl rfl)
    · rcases lt8_tri (pl x) (pl e) with h | h | h
      · exact absurd h h2
      · exact .inl ⟨h1, h⟩
      · exact .inr (.inr ⟨h1, h⟩)
theorem asc_wth {l : List Ent} (h : Asc l) (e : Ent) : Asc (wth l e) := by
  unfold wth Asc
  rw [List.pairwise_append, List.pairwise_cons]
  refine ⟨h.filter _, ⟨fun x hx => by simpa using (List.mem_filter.1 hx).2, h.filter _⟩, fun a ha b hb => ?_⟩
  have h1 : lt8 (pl a) (pl e) = true := by simpa using (List.mem_filter.1 ha).2
  rcases List.mem_cons.1 hb with rfl | hb
  · exact h1
  · exact lt8_trans h1 (by simpa using (List.mem_filter.1 hb).2)
theorem asc_ext : ∀ {a b : List Ent}, Asc a → Asc b → (∀ x, x ∈ a ↔ x ∈ b) → a = b
  | [], [], _, _, _ => rfl
  | [], y :: s, _, _, h => absurd ((h y).2 List.mem_cons_self) (by simp)
  | x :: r, [], _, _, h => absurd ((h x).1 List.mem_cons_self) (by simp)
  | x :: r, y :: s, ha, hb, h => by
    obtain ⟨a1, a2⟩ := List.pairwise_cons.1 ha
    obtain ⟨b1, b2⟩ := List.pairwise_cons.1 hb
    have hxy : x = y := by
      rcases List.mem_cons.1 ((h x).1 List.mem_cons_self) with e | e
      · exact e
      · rcases List.mem_cons.1 ((h y).2 List.mem_cons_self) with e2 | e2
        · exact e2.symm
        · have := lt8_trans (b1 x e) (a1 y e2)
          rw [lt8_irr] at this
          cases this
    subst hxy
    rw [asc_ext a2 b2 fun z => ?_]
    constructor
    · intro hz
      rcases List.mem_cons.1 ((h z).1 (List.mem_cons_of_mem _ hz)) with rfl | e
      · have := a1 z hz; rw [lt8_irr] at this; cases this
      · exact e
    · intro hz
      rcases List.mem_cons.1 ((h z).2 (List.mem_cons_of_mem _ hz)) with rfl | e
      · have := b1 z hz; rw [lt8_irr] at this; cases this
      · exact e
theorem wth_snoc {l : List Ent} {e : Ent} (h : ∀ a ∈ l, lt8 (pl a) (pl e) = true) : wth l e = l ++ [e] := by
  unfold wth
  rw [List.filter_eq_self.2 h, List.filter_eq_nil_iff.2 fun a ha => by rw [lt8_asymm (h a ha)]; simp]
theorem wth_mem {l : List Ent} (h : Asc l) {e : Ent} (he : e ∈ l) : wth l e = l := by
  refine asc_ext (asc_wth h e) h fun x => ?_
  rw [mem_wth]
  constructor
  · rintro (rfl | ⟨h1, _⟩)
    · exact he
    · exact h1
  · intro hx
    by_cases e1 : pl x = pl e
    · exact .inl (asc_inj h hx he e1)
    · exact .inr ⟨hx, e1⟩
theorem fnd_wth {l : List Ent} (h : Asc l) (e : Ent) (p : List UInt8) : fnd (wth l e) p = if p = pl e then some e else fnd l p := by
  split
  · rename_i h1
    exact (fnd_some (asc_wth h e)).2 ⟨mem_wth.2 (.inl rfl), h1.symm⟩
  · rename_i h1
    cases hf : fnd l p with
    | none =>
      rw [fnd_none] at hf ⊢
      intro x hx
      rcases mem_wth.1 hx with rfl | ⟨h2, _⟩
      · exact fun e0 => h1 e0.symm
      · exact hf x h2
    | some x =>
      rw [fnd_some h] at hf
      rw [fnd_some (asc_wth h e)]
      exact ⟨mem_wth.2 (.inr ⟨hf.1, fun e0 => h1 (hf.2.symm.trans e0)⟩), hf.2⟩
theorem fnd_wout (l : List Ent) (p : List UInt8) : fnd (wout l p) p = none := by
  rw [fnd_none]
  intro e he
  simpa using (List.mem_filter.1 he).2
theorem len_wout {l : List Ent} (h : Asc l) {p : List UInt8} {e : Ent} (he : fnd l p = some e) : (wout l p).length + 1 = l.length := by
  rw [fnd_some h] at he
  obtain ⟨he, hp⟩ := he
  induction l with
  | nil => cases he
  | cons x r ih =>
    obtain ⟨h1, h2⟩ := List.pairwise_cons.1 h
    unfold wout
    rcases List.mem_cons.1 he with rfl | he
    · rw [List.filter_cons_of_neg (by simp [hp]), List.filter_eq_self.2 fun y hy => ?_]
      · rfl
      · have := lt8_ne (h1 y hy)
        simp only [ne_eq, decide_not, Bool.not_eq_eq_eq_not, Bool.not_true, decide_eq_false_iff_not]
        exact fun e0 => this (hp.trans e0.symm)
    · have h3 : pl x ≠ p := fun e0 => by
        have := lt8_ne (h1 e he)
        exact this (e0.trans hp.symm)
      rw [List.filter_cons_of_pos (by simpa using h3), List.length_cons, List.length_cons]
      have := ih h2 he
      unfold wout at this
      omega
/-- What lies under a path. -/
def blw (l : List Ent) (p : List UInt8) : List Ent := l.filter fun a => und (pl a) p
/-- The rest: neither at a path nor under it. -/
def rst (l : List Ent) (p : List UInt8) : List Ent := l.filter fun a => !und (pl a) p && decide (pl a ≠ p)
theorem rl_rst {l : List Ent} (h : RL l) (p : List UInt8) : RL (rst l p) := by
  obtain ⟨h1, h2, h3⟩ := h
  refine ⟨fun e he => h1 e ((List.mem_filter.1 he).1), h2.filter _, fun e he => ?_⟩
  have hr := h1 e ((List.mem_filter.1 he).1)
  obtain ⟨p1, p2⟩ := rE_isP hr
  refine (h3 e ((List.mem_filter.1 he).1)).imp_right ?_
  rintro ⟨d, hd1, hd2, hd3⟩
  refine ⟨d, List.mem_filter.2 ⟨hd1, ?_⟩, hd2, hd3⟩
  have hu := (List.mem_filter.1 he).2
  rw [Bool.and_eq_true, Bool.not_eq_eq_eq_not, Bool.not_true, decide_eq_true_iff] at hu ⊢
  have hq := und_par9 (q := p) p1 p2
  rw [hu.1] at hq
  rw [hd2]
  rw [eq_comm, Bool.or_eq_false_iff, decide_eq_false_iff_not] at hq
  exact ⟨hq.2, fun e0 => hq.1 e0.symm⟩
theorem len_rst (l : List Ent) (p : List UInt8) : (rst l p).length ≤ l.length := List.length_filter_le _ _
end Go.Proofs.Ytkannambildnoaa

namespace Go.Proofs.Ytkannambildnoaa
open Go.RowKit

/-- The directory at a path. -/
def dE (p : ByteArray) : Ent := (p, 2, ⟨#[]⟩)
/-- One entry laid over a tree. -/
def over1 (t : List Ent) (e : Ent) : List Ent :=
  if e.2.1 = 2 then wth t (dE e.1) else if e.2.1 = 1 then wth (rst t (pl e)) e else if e.2.1 = 4 then wth (rst t (pl e)) (dE e.1) else rst t (pl e)
/-- A layer laid over a tree. -/
def over (t l : List Ent) : List Ent := l.foldl over1 t
/-- A tree, but for its size. -/
def TR (t : List Ent) : Prop := RL t ∧ ∀ e ∈ t, e.2.1 ≤ 2
instance (t : List Ent) : Decidable (TR t) := inferInstanceAs (Decidable (_ ∧ _))
/-- A tree. -/
def TreeL (t : List Ent) : Prop := t.length ≤ 1024 ∧ TR t
instance (t : List Ent) : Decidable (TreeL t) := inferInstanceAs (Decidable (_ ∧ _))
/-- What an entry shows. -/
def sh (e : Ent) : Ent := if e.2.1 = 1 then e else dE e.1
theorem pl_sh (e : Ent) : pl (sh e) = pl e := by unfold sh; split <;> rfl
theorem asc_rst {t : List Ent} (h : Asc t) (p : List UInt8) : Asc (rst t p) := h.filter _
theorem mem_rst {t : List Ent} {p : List UInt8} {x : Ent} : x ∈ rst t p ↔ x ∈ t ∧ und (pl x) p = false ∧ pl x ≠ p := by
  unfold rst
  rw [List.mem_filter, Bool.and_eq_true, Bool.not_eq_eq_eq_not, Bool.not_true, decide_eq_true_iff]
theorem asc_over1 {t : List Ent} (h : Asc t) (e : Ent) : Asc (over1 t e) := by
  unfold over1
  split
  · exact asc_wth h _
  · split
    · exact asc_wth (asc_rst h _) _
    · split
      · exact asc_wth (asc_rst h _) _
      · exact asc_rst h _
theorem asc_over : ∀ {l t : List Ent}, Asc t → Asc (over t l)
  | [], _, h => h
  | e :: r, _, h => asc_over (l := r) (asc_over1 h e)
theorem over_snoc (t l : List Ent) (e : Ent) : over t (l ++ [e]) = over1 (over t l) e := by unfold over; rw [List.foldl_append]; rfl
/-- A tree's directory is its path's. -/
theorem dir_eq {x : Ent} (h : rE x = true) (hk : x.2.1 = 2) : x = dE x.1 := by
  obtain ⟨_, _, _, _, h5⟩ := rightE_parts h
  obtain ⟨p, k, d⟩ := x
  simp only at hk h5
  subst hk
  have : d = ⟨#[]⟩ := by
    rcases h5 with h5 | h5
    · cases h5
    · exact ba_ext (List.length_eq_zero_iff.1 (by rw [← Lib.size_eq]; exact h5))
  rw [this]
  rfl
/-- What is there behind one entry. -/
theorem mem_over1 {t : List Ent} {e x : Ent} (hk : 1 ≤ e.2.1 ∧ e.2.1 ≤ 4) : x ∈ over1 t e ↔ (e.2.1 ≠ 3 ∧ x = sh e) ∨ (x ∈ t ∧ pl x ≠ pl e ∧ (e.2.1 ≠ 2 → und (pl x) (pl e) = false)) := by
  unfold over1 sh
  by_cases h2 : e.2.1 = 2
  · rw [if_pos h2, mem_wth, if_neg (by omega)]
    simp only [h2]
    constructor
    · rintro (h | ⟨h, h'⟩)
      · exact .inl ⟨by omega, h⟩
      · exact .inr ⟨h, h', fun h9 => absurd rfl h9⟩
    · rintro (⟨_, h⟩ | ⟨h, h', _⟩)
      · exact .inl h
      · exact .inr ⟨h, h'⟩
  · rw [if_neg h2]
    by_cases h1 : e.2.1 = 1
    · rw [if_pos h1, if_pos h1, mem_wth, mem_rst]
      constructor
      · rintro (h | ⟨⟨h, h', h''⟩, _⟩)
        · exact .inl ⟨by omega, h⟩
        · exact .inr ⟨h, h'', fun _ => h'⟩
      · rintro (⟨_, h⟩ | ⟨h, h', h''⟩)
        · exact .inl h
        · exact .inr ⟨⟨h, h'' h2, h'⟩, h'⟩
    · rw [if_neg h1, if_neg h1]
      by_cases h4 : e.2.1 = 4
      · rw [if_pos h4, mem_wth, mem_rst]
        constructor
        · rintro (h | ⟨⟨h, h', h''⟩, _⟩)
          · exact .inl ⟨by omega, h⟩
          · exact .inr ⟨h, h'', fun _ => h'⟩
        · rintro (⟨_, h⟩ | ⟨h, h', h''⟩)
          · exact .inl h
          · exact .inr ⟨⟨h, h'' h2, h'⟩, h'⟩
      · rw [if_neg h4, mem_rst]
        constructor
        · rintro ⟨h, h', h''⟩
          exact .inr ⟨h, h'', fun _ => h'⟩
        · rintro (⟨h, _⟩ | ⟨h, h', h''⟩)
          · omega
          · exact ⟨h, h'' h2, h'⟩
theorem kind_of {e : Ent} (h : rE e = true) : 1 ≤ e.2.1 ∧ e.2.1 ≤ 4 := by
  obtain ⟨_, h2, h3, _⟩ := rightE_parts h
  exact ⟨h2, h3⟩
/-- What is there behind a layer: what its entries show, and what was there that none of them names, or hides. -/
theorem mem_over {l t : List Ent} (hr : ∀ e ∈ l, rE e = true) (hA : Asc l) {x : Ent} : x ∈ over t l ↔ (∃ e ∈ l, e.2.1 ≠ 3 ∧ x = sh e) ∨ (x ∈ t ∧ ∀ e ∈ l, pl x ≠ pl e ∧ (e.2.1 ≠ 2 → und (pl x) (pl e) = false)) := by
  have key : ∀ k (m : List Ent), m.length = k → (∀ e ∈ m, rE e = true) → Asc m → (x ∈ over t m ↔ (∃ e ∈ m, e.2.1 ≠ 3 ∧ x = sh e) ∨ (x ∈ t ∧ ∀ e ∈ m, pl x ≠ pl e ∧ (e.2.1 ≠ 2 → und (pl x) (pl e) = false))) := by
    intro k
    induction k with
    | zero =>
      intro m hm _ _
      rw [List.length_eq_zero_iff.1 hm]
      simp [over]
    | succ k ih =>
      intro m hm hr hA
      rcases List.eq_nil_or_concat m with rfl | ⟨r, b, rfl⟩
      · simp at hm
      · rw [List.concat_eq_append] at *
        have hrb := hr b (by simp)
        obtain ⟨hA1, hA2⟩ := asc_snoc.1 hA
        have ih := ih r (by simpa using hm) (fun e he => hr e (by simp [he])) hA1
        rw [over_snoc, mem_over1 (kind_of hrb), ih]
        constructor
        · rintro (⟨h1, h2⟩ | ⟨h1 | ⟨h1, h2⟩, h3, h4⟩)
          · exact .inl ⟨b, by simp, h1, h2⟩
          · obtain ⟨e, he, h5⟩ := h1
            exact .inl ⟨e, by simp [he], h5⟩
          · refine .inr ⟨h1, fun e he => ?_⟩
            rcases List.mem_append.1 he with he | he
            · exact h2 e he
            · obtain rfl : e = b := by simpa using he
              exact ⟨h3, h4⟩
        · rintro (⟨e, he, h1, h2⟩ | ⟨h1, h2⟩)
          · rcases List.mem_append.1 he with he | he
            · refine .inr ⟨.inl ⟨e, he, h1, h2⟩, ?_, fun _ => ?_⟩
              · rw [h2, pl_sh]
                exact lt8_ne (hA2 e he)
              · rw [h2, pl_sh]
                cases hu : und (pl e) (pl b) with
                | false => rfl
                | true =>
                  have := lt8_trans (und_lt hu) (hA2 e he)
                  rw [lt8_irr] at this
                  cases this
            · obtain rfl : e = b := by simpa using he
              exact .inl ⟨h1, h2⟩
          · exact .inr ⟨.inr ⟨h1, fun e he => h2 e (by simp [he])⟩, h2 b (by simp)⟩
  exact key _ l rfl hr hA
theorem sh_tree {e : Ent} (h : rE e = true) (h2 : e.2.1 ≤ 2) : sh e = e := by
  unfold sh
  split
  · rfl
  · have := kind_of h
    exact (dir_eq h (by omega)).symm
theorem sh_right {e : Ent} (h : rE e = true) : rE (sh e) = true ∧ (sh e).2.1 ≤ 2 := by
  unfold sh
  split
  · rename_i h1
    exact ⟨h, by omega⟩
  · refine ⟨rightE_of (rightE_parts h).1 (.inr ⟨⟨show (2 : Int) ≤ 2 by decide, show (2 : Int) ≤ 4 by decide⟩, rfl⟩), show (2 : Int) ≤ 2 by decide⟩
theorem sh_hd {e : Ent} (h : rE e = true) (h3 : e.2.1 ≠ 3) : hd e = hd (sh e) := by
  have := kind_of h
  unfold hd sh
  split
  · rfl
  · rename_i h1
    have : e.2.1 = 2 ∨ e.2.1 = 4 := by omega
    rcases this with h | h <;> rw [h] <;> rfl
/-- What comes is a tree. -/
theorem tr_over {t l : List Ent} (ht : TR t) (hl : RL l) : TR (over t l) := by
  obtain ⟨⟨t1, t2, t3⟩, t4⟩ := ht
  obtain ⟨l1, l2, l3⟩ := hl
  have hm : ∀ x, x ∈ over t l ↔ _ := fun x => mem_over (t := t) l1 l2 (x := x)
  refine ⟨⟨fun x hx => ?_, asc_over t2, fun x hx => ?_⟩, fun x hx => ?_⟩
  · rcases (hm x).1 hx with ⟨e, he, _, rfl⟩ | ⟨h1, _⟩
    · exact (sh_right (l1 e he)).1
    · exact t1 x h1
  · rcases (hm x).1 hx with ⟨e, he, _, rfl⟩ | ⟨h1, h2⟩
    · unfold inD
      rw [pl_sh]
      refine (l3 e he).imp_right ?_
      rintro ⟨d, hd1, hd2, hd3⟩
      have hd9 : d.2.1 ≠ 3 := fun h9 => by unfold hd at hd3; rw [h9] at hd3; cases hd3
      exact ⟨sh d, (hm _).2 (.inl ⟨d, hd1, hd9, rfl⟩), by rw [pl_sh]; exact hd2, by rw [← sh_hd (l1 d hd1) hd9]; exact hd3⟩
    · refine (t3 x h1).imp_right ?_
      rintro ⟨d, hd1, hd2, hd3⟩
      obtain ⟨p1, p2⟩ := rE_isP (t1 x h1)
      by_cases hn : ∃ e ∈ l, pl d = pl e
      · obtain ⟨e, he, hde⟩ := hn
        have hux : und (pl x) (pl e) = true := by rw [und_par9 p1 p2, ← hd2, hde, decide_eq_true rfl, Bool.true_or]
        have hk2 : e.2.1 = 2 := by
          by_cases h2' : e.2.1 = 2
          · exact h2'
          · have := (h2 e he).2 h2'
            rw [hux] at this
            cases this
        refine ⟨sh e, (hm _).2 (.inl ⟨e, he, by omega, rfl⟩), by rw [pl_sh, ← hde]; exact hd2, ?_⟩
        rw [← sh_hd (l1 e he) (by omega)]
        unfold hd
        rw [hk2]
        rfl
      · refine ⟨d, (hm _).2 (.inr ⟨hd1, fun e he => ⟨fun h9 => hn ⟨e, he, h9⟩, fun h2' => ?_⟩⟩), hd2, hd3⟩
        cases hu : und (pl d) (pl e) with
        | false => rfl
        | true =>
          have := (h2 e he).2 h2'
          rw [und_par9 p1 p2, ← hd2, hu, Bool.or_true] at this
          cases this
  · rcases (hm x).1 hx with ⟨e, he, _, rfl⟩ | ⟨h1, _⟩
    · exact (sh_right (l1 e he)).2
    · exact t4 x h1
/-- A layer laid over twice is as laid over once. -/
theorem over_twice {t l : List Ent} (ht : Asc t) (hr : ∀ e ∈ l, rE e = true) (hA : Asc l) : over (over t l) l = over t l := by
  refine asc_ext (asc_over (asc_over ht)) (asc_over ht) fun x => ?_
  rw [mem_over hr hA, mem_over hr hA]
  constructor
  · rintro (h | ⟨h | h, h'⟩)
    · exact .inl h
    · exact .inl h
    · exact .inr h
  · rintro (h | h)
    · exact .inl h
    · exact .inr ⟨.inr h, h.2⟩
/-- A tree, laid over nothing, is itself. -/
theorem over_nil {t : List Ent} (h : TR t) : over [] t = t := by
  refine asc_ext (asc_over List.Pairwise.nil) h.1.2.1 fun x => ?_
  rw [mem_over h.1.1 h.1.2.1]
  constructor
  · rintro (⟨e, he, _, rfl⟩ | ⟨h1, _⟩)
    · rw [sh_tree (h.1.1 e he) (h.2 e he)]
      exact he
    · cases h1
  · intro hx
    exact .inl ⟨x, hx, by have := h.2 x hx; omega, (sh_tree (h.1.1 x hx) (h.2 x hx)).symm⟩
/-- A whiteout alone. -/
theorem over_white (t : List Ent) (p : ByteArray) (d : ByteArray) : over t [(p, 3, d)] = rst t p.data.toList := rfl
theorem over_empty (t : List Ent) : over t [] = t := rfl
/-- What none of a layer's entries names, or lies above, stays. -/
theorem over_keeps {t l : List Ent} (hr : ∀ e ∈ l, rE e = true) (hA : Asc l) {x : Ent} (hx : x ∈ t) (h : ∀ e ∈ l, pl x ≠ pl e ∧ und (pl x) (pl e) = false) : x ∈ over t l := (mem_over hr hA).2 (.inr ⟨hx, fun e he => ⟨(h e he).1, fun _ => (h e he).2⟩⟩)
theorem wth_le (l : List Ent) (e : Ent) : (wth l e).length ≤ l.length + 1 := by
  have key : ∀ m : List Ent, (m.filter (fun a => lt8 (pl a) (pl e))).length + (m.filter (fun a => lt8 (pl e) (pl a))).length ≤ m.length := by
    intro m
    induction m with
    | nil => simp
    | cons x r ih =>
      rw [List.filter_cons, List.filter_cons]
      cases h1 : lt8 (pl x) (pl e) with
      | true =>
        rw [lt8_asymm h1]
        simp
        omega
      | false => cases lt8 (pl e) (pl x) <;> simp <;> omega
  have := key l
  unfold wth
  rw [List.length_append, List.length_cons]
  omega
theorem over1_len (t : List Ent) (e : Ent) : (over1 t e).length ≤ t.length + 1 := by
  have h1 := wth_le t (dE e.1)
  have h2 := wth_le (rst t (pl e)) e
  have h3 := wth_le (rst t (pl e)) (dE e.1)
  have h4 := len_rst t (pl e)
  unfold over1
  split
  · omega
  · split
    · omega
    · split <;> omega
theorem over_len : ∀ (l t : List Ent), (over t l).length ≤ t.length + l.length
  | [], t => by simp [over]
  | e :: r, t => by
    have h1 := over1_len t e
    have h2 := over_len r (over1 t e)
    show (over (over1 t e) r).length ≤ _
    rw [List.length_cons]
    omega
/-- What a stack shows. -/
def stk (s : List (List Ent)) : List Ent := s.foldl over []
theorem stk_snoc (s : List (List Ent)) (l : List Ent) : stk (s ++ [l]) = over (stk s) l := by unfold stk; rw [List.foldl_append]; rfl
theorem tr_nil : TR [] := ⟨rl_nil, by simp⟩
theorem tr_stk {s : List (List Ent)} (h : ∀ l ∈ s, RightL l) : TR (stk s) := by
  have key : ∀ (s : List (List Ent)) (t : List Ent), TR t → (∀ l ∈ s, RightL l) → TR (s.foldl over t) := by
    intro s
    induction s with
    | nil => intro t ht _; exact ht
    | cons l r ih => intro t ht h; exact ih _ (tr_over ht (h l (by simp)).2) fun m hm => h m (by simp [hm])
  exact key s [] tr_nil h
theorem stk_len {s : List (List Ent)} (h : ∀ l ∈ s, RightL l) : (stk s).length ≤ 64 * s.length := by
  have key : ∀ (s : List (List Ent)) (t : List Ent), (∀ l ∈ s, RightL l) → (s.foldl over t).length ≤ t.length + 64 * s.length := by
    intro s
    induction s with
    | nil => intro t _; simp
    | cons l r ih =>
      intro t h
      have h1 := ih (over t l) fun m hm => h m (by simp [hm])
      have h2 := over_len l t
      have h3 := (h l (by simp)).1
      rw [List.foldl_cons, List.length_cons]
      omega
  have := key s [] h
  rw [List.length_nil, Nat.zero_add] at this
  exact this
theorem stk_insert (a b : List (List Ent)) : stk (a ++ [] :: b) = stk (a ++ b) := by
  unfold stk
  rw [List.foldl_append, List.foldl_append]
  rfl
end Go.Proofs.Ytkannambildnoaa

namespace Go.Proofs.Ytkannambildnoaa
open Go.RowKit

/-- Does a text begin with another one and a slash? -/
def upx (p d : List UInt8) : Bool := (d ++ [47]).isPrefixOf p
theorem upx_und {p d : List UInt8} (hp : isP p) (hd : isP d) (h : d ≠ [47]) : upx p d = und p d := by
  rw [und_eq hp hd, if_neg h]
  rfl
theorem upx_long {p d : List UInt8} (h : ¬ d.length < p.length) : upx p d = false := by
  unfold upx
  cases hx : (d ++ [47]).isPrefixOf p with
  | false => rfl
  | true =>
    have := (List.isPrefixOf_iff_prefix.1 hx).length_le
    simp at this
    omega
theorem upx_take (p d : List UInt8) : upx p d = decide (p.take (d.length + 1) = d ++ [47]) := by
  unfold upx
  rw [Bool.eq_iff_iff, List.isPrefixOf_iff_prefix, decide_eq_true_iff, List.prefix_iff_eq_take]
  simp only [List.length_append, List.length_cons, List.length_nil]
  exact eq_comm
set_option maxRecDepth 10000 in
set_option maxHeartbeats 1000000 in
theorem refUnd (p d : ByteArray) (hd : d.size ≤ 100000) (w : World) : Calls Try.prog 21 #[.string p, .string d] w fun e w' => e = .returned (.bool (upx p.data.toList d.data.toList)) ∧ w = w' := by
  by_cases h : d.size < p.size
  · have h' : (d.size : Int) < (p.size : Int) := by omega
    have hw : IntKind.i64.wrap ((d.size : Int) + 1) = (d.size : Int) + 1 := IntWalk.i64_in _ (by omega)
    have z1 : ¬ 9223372036854775807 < d.size + 1 := by omega
    have hle : (d.size : Int) + 1 ≤ (p.size : Int) := by omega
    have HV := Lib.hid (show ((p.extract 0 (d.size + 1)).toList == (d ++ ⟨#[47]⟩).toList) = upx p.data.toList d.data.toList by
      rw [upx_take, Bool.eq_iff_iff, beq_iff_eq, decide_eq_true_iff, Lib.toList_data, Lib.toList_data]
      simp [ByteArray.data_append])
    clear hd
    go_enter Try.func21, Try.ntmps21
    go_wp2
    go_ret
    exact ⟨by rw [← HV.out]; first | rfl | simp, rfl⟩
  · have h' : ¬ (d.size : Int) < (p.size : Int) := by omega
    have HV := Lib.hid (upx_long (p := p.data.toList) (d := d.data.toList) (by rw [← Lib.size_eq, ← Lib.size_eq]; exact h))
    clear hd
    go_enter Try.func21, Try.ntmps21
    go_wp2
    go_ret
    exact ⟨by rw [HV.out]; rfl, rfl⟩
end Go.Proofs.Ytkannambildnoaa

namespace Go.Proofs.Ytkannambildnoaa
open Go.RowKit Go.ChangeShapes Go.WideShapes Go.Deep

/-- A slice that holds a list, each element as C cells. -/
def RowN {α : Type} (C : Nat) (f : α → List Value) (w : World) (a : Option Addr) (cap : Nat) (l : List α) : Prop :=
  l.length ≤ cap ∧ (l = [] ∨ ∃ b off, a = some ⟨b, off, none⟩ ∧ b < w.heap.size ∧ ∀ (j : Nat) x, l[j]? = some x → w.rangeAt b (off + j * C) (f x))
theorem rangeAt_below {w w' : World} {B b o : Nat} {cs : List Value} (h : w.rangeAt b o cs) (hb : Below B w w') (hB : b < B) : w'.rangeAt b o cs := fun j v hv => (hb.cell (p := ⟨b, o + j, none⟩) hB).trans (h j v hv)
theorem RowN.below {α : Type} {C : Nat} {f : α → List Value} {w w' : World} {a : Option Addr} {cap : Nat} {l : List α} (h : RowN C f w a cap l) (hb : Below w.heap.size w w') : RowN C f w' a cap l := by
  obtain ⟨h1, h2⟩ := h
  refine ⟨h1, h2.imp_right ?_⟩
  rintro ⟨b, off, rfl, hlt, hc⟩
  exact ⟨b, off, rfl, Nat.lt_of_lt_of_le hlt hb.size, fun j x hx => rangeAt_below (hc j x hx) hb hlt⟩
theorem RowN.at {α : Type} {C : Nat} {f : α → List Value} {w w' : World} {a : Option Addr} {cap : Nat} {l : List α} (h : RowN C f w a cap l) (hb : Below w.heap.size w w') {k : Nat} (hk : k < l.length) :
    ∃ b off x, a = some ⟨b, off, none⟩ ∧ b < w.heap.size ∧ w'.rangeAt b (off + k * C) (f x) ∧ x ∈ l ∧ l.take (k + 1) = l.take k ++ [x] ∧ l.drop k = x :: l.drop (k + 1) := by
  rcases h.2 with h0 | ⟨b, off, rfl, hlt, hc⟩
  · rw [h0] at hk; simp at hk
  · have hx : l[k]? = some l[k] := List.getElem?_eq_getElem hk
    exact ⟨b, off, l[k], rfl, hlt, rangeAt_below (hc k l[k] hx) hb hlt, List.getElem_mem hk, by rw [List.take_add_one, hx]; rfl, List.drop_eq_getElem_cons hk⟩

theorem list_of {α β : Type} (f : α → β → Prop) (n : Nat) (g : Nat → β) (h : ∀ i, i < n → ∃ x, f x (g i)) : ∃ l : List α, l.length = n ∧ ∀ j x, l[j]? = some x → f x (g j) := by
  induction n with
  | zero => exact ⟨[], rfl, fun j x hx => by simp at hx⟩
  | succ n ih =>
    obtain ⟨l, hl, hf⟩ := ih fun i hi => h i (by omega)
    obtain ⟨y, hy⟩ := h n (by omega)
    refine ⟨l ++ [y], by simp [hl], fun j x hx => ?_⟩
    by_cases hj : j < l.length
    · rw [List.getElem?_append_left hj] at hx
      exact hf j x hx
    · rw [List.getElem?_append_right (by omega)] at hx
      have : j - l.length = 0 := by
        rcases Nat.eq_zero_or_pos (j - l.length) with h0 | h0
        · exact h0
        · rw [List.getElem?_eq_none (by simp; omega)] at hx
          cases hx
      rw [this] at hx
      have e : j = n := by omega
      subst e
      obtain rfl : y = x := by simpa using hx
      exact hy

theorem rowN_open {H α : Type} {enc : TypeId × Value → H} {P : Program} {W : World} {b : Nat} {t e : TypeId} {C : Nat} (f : α → List Value) (ok : α → Prop) (ht : P.underlying t = some (.slice e)) (hC : P.cellsOf e = C) (hC0 : 0 < C)
    (hof : ∀ n cs d, DataW.trod enc P W b (fun _ => true) true n e cs = some d → ∃ x, ok x ∧ cs = f x) {a : Option Addr} {len cap : Nat} {d : DataW H} {ps : List MemPlace}
    (h : ∃ fuel, DataW.trod enc P W b (fun _ => true) true fuel t (Value.slice a len cap).cells.toList = some (d, ps)) : ∃ l : List α, len = l.length ∧ RowN C f W a cap l ∧ (∀ x ∈ l, ok x) ∧ l.length ≤ maxLen := by
  obtain ⟨fuel, hf⟩ := h
  rcases open_slice ht hf with ⟨hcs, _⟩ | ⟨a', len', cap', m, n, D, Pl, hcs, _, hl, hm, hmm, _, hi⟩
  · simp [Value.cells] at hcs
    obtain ⟨rfl, rfl, rfl⟩ := hcs
    exact ⟨[], rfl, ⟨by simp, .inl rfl⟩, by simp, by simp [maxLen]⟩
  · simp [Value.cells] at hcs
    obtain ⟨rfl, rfl, rfl⟩ := hcs
    simp at hmm
    subst hmm
    rw [hC] at hi
    obtain ⟨L, hL, hLf⟩ := list_of (fun x i => ok x ∧ W.cells? b (a'.add (i * C)) C = some (f x)) len id fun i hil => by
      obtain ⟨cs', h1, h2⟩ := hi i (by omega)
      obtain ⟨x, h3, rfl⟩ := hof n cs' _ h2
      exact ⟨x, h3, h1⟩
    refine ⟨L, hL.symm, ⟨by omega, ?_⟩, fun x hx => ?_, by omega⟩
    · by_cases h0 : L = []
      · exact .inl h0
      · right
        obtain ⟨x0, hx0⟩ : ∃ x0, L[0]? = some x0 := by
          cases L with
          | nil => exact absurd rfl h0
          | cons x r => exact ⟨x, rfl⟩
        obtain ⟨bb, off, spot⟩ := a'
        have g0 := (World.cells?_some (hLf 0 x0 hx0).2)
        have c0 := g0.2.2 0 hC0
        have hsome : ∃ v, (f x0)[0]? = some v := ⟨_, List.getElem?_eq_getElem (by rw [g0.2.1]; exact hC0)⟩
        obtain ⟨v0, hv0⟩ := hsome
        rw [hv0] at c0
        have hspot : spot = none := by simpa [Addr.add] using World.cell?_spot c0
        subst hspot
        have hlt : bb < W.heap.size := by
          rcases Nat.lt_or_ge bb W.heap.size with h' | h'
          · exact h'
          · simp [World.cell?, Addr.add, Array.getElem?_eq_none h'] at c0
        refine ⟨bb, off, rfl, hlt, fun j x hx i v hv => ?_⟩
        have gj := World.cells?_some (hLf j x hx).2
        have hil : i < C := by rw [← gj.2.1]; exact (List.getElem?_eq_some_iff.1 hv).1
        have := gj.2.2 i hil
        rw [hv, Go.WideShapes.add_plain, Go.WideShapes.add_plain] at this
        exact this
    · obtain ⟨j, hj⟩ := List.mem_iff_getElem?.1 hx
      exact (hLf j x hj).1
end Go.Proofs.Ytkannambildnoaa

namespace Go.Proofs.Ytkannambildnoaa
open Go.RowKit

/-- A slice that holds a list, each element as one cell. -/
def RowOf {α : Type} (f : α → Value) (w : World) (a : Option Addr) (cap : Nat) (l : List α) : Prop :=
  l.length ≤ cap ∧ (l = [] ∨ ∃ b off, a = some ⟨b, off, none⟩ ∧ b < w.heap.size ∧ ∀ (j : Nat) x, l[j]? = some x → w.cell? ⟨b, off + j, none⟩ = some (f x))
theorem RowOf.below {α : Type} {f : α → Value} {w w' : World} {a : Option Addr} {cap : Nat} {l : List α} (h : RowOf f w a cap l) (hb : Below w.heap.size w w') : RowOf f w' a cap l := by
  obtain ⟨h1, h2⟩ := h
  refine ⟨h1, h2.imp_right ?_⟩
  rintro ⟨b, off, rfl, hlt, hc⟩
  exact ⟨b, off, rfl, Nat.lt_of_lt_of_le hlt hb.size, fun j x hx => (hb.cell (p := ⟨b, off + j, none⟩) hlt).trans (hc j x hx)⟩
theorem RowOf.at {α : Type} {f : α → Value} {w w' : World} {a : Option Addr} {cap : Nat} {l : List α} (h : RowOf f w a cap l) (hb : Below w.heap.size w w') {k : Nat} (hk : k < l.length) :
    ∃ b off x, a = some ⟨b, off, none⟩ ∧ w'.cell? ⟨b, off + k, none⟩ = some (f x) ∧ l.take (k + 1) = l.take k ++ [x] ∧ l.drop k = x :: l.drop (k + 1) := by
  rcases h.2 with h0 | ⟨b, off, rfl, hlt, hc⟩
  · rw [h0] at hk; simp at hk
  · have hx : l[k]? = some l[k] := List.getElem?_eq_getElem hk
    exact ⟨b, off, l[k], rfl, (hb.cell (p := ⟨b, off + k, none⟩) hlt).trans (hc k l[k] hx), by rw [List.take_add_one, hx]; rfl, List.drop_eq_getElem_cons hk⟩
theorem rowOf_mk {α : Type} {f : α → Value} {w : World} {a : Addr} {len cap : Nat} {l : List α} (d : α) (hl : len ≤ l.length) (hc : len ≤ cap) (h : ∀ i, i < l.length → w.cell? (a.add i) = some (f (l.getD i d))) : RowOf f w (some a) cap (l.take len) := by
  refine ⟨by simp; omega, ?_⟩
  by_cases h0 : len = 0
  · exact .inl (by simp [h0])
  · obtain ⟨bb, off, spot⟩ := a
    have hspot : spot = none := by simpa [Addr.add] using World.cell?_spot (h 0 (by omega))
    subst hspot
    have hc0 := h 0 (by omega)
    rw [Go.WideShapes.add_plain] at hc0
    have hlt : bb < w.heap.size := by
      rcases Nat.lt_or_ge bb w.heap.size with h' | h'
      · exact h'
      · simp [World.cell?, Array.getElem?_eq_none h'] at hc0
    refine .inr ⟨bb, off, rfl, hlt, fun j x hx => ?_⟩
    rw [List.getElem?_take] at hx
    split at hx
    · rename_i hj
      have hcj := h j (by omega)
      rw [Go.WideShapes.add_plain, List.getD_eq_getElem?_getD, hx] at hcj
      exact hcj
    · cases hx
end Go.Proofs.Ytkannambildnoaa

namespace Go.Proofs.Ytkannambildnoaa
open Go.RowKit

theorem grownBy_self (w : World) (row : Option Nat) : w.grownBy w row := ⟨rfl, rfl, rfl, Nat.le_refl _, fun _ _ _ => rfl⟩

theorem run_append_any {P : Program} (w : World) (base : Nat) (t ty e : TypeId) (i : TypeInfo) (z : Value) (size bytes : Nat) (ht : P.underlying t = some (.slice e)) (hi : P.info? e = some i) (hz : i.zero = some z)
    (hsize : i.size = size) (hby : i.bytes = bytes) (hzs : z.cells.size = size) (hsz : 0 < size) (v : Value) (n : Nat) (xs : List Value) (hown : w.ownsRow base e size v n xs)
    (aS : Option Addr) (m c : Nat) (news : List Value) (hl : news.length = m * size) (hsrc : ∀ ad, aS = some ad → ∀ j u, news[j]? = some u → w.cell? (ad.add j) = some u) (hnone : aS = none → m = 0) (h1 : ∀ u ∈ news, u.oneCell' = true)
    (h63 : n + m ≤ maxLen) (hbytes : (n + m) * bytes ≤ 140737488355328) (hbase : base ≤ w.heap.size) :
    ∃ v' w', (Builtin.append_ #[t, t] ty #[v, .slice aS m c]).run P w = .ok v' w' ∧ w'.ownsRow base e size v' (n + m) (xs ++ news) ∧ w.grownBy w' v.ownBlock := by
  cases aS with
  | some ad =>
    obtain ⟨v', w', h2, h3, h4, _⟩ := run_append_own (P := P) w base t ty e i z size bytes ht hi hz hsize hby hzs hsz v n xs hown ad m c news hl (hsrc ad rfl) h1 h63 hbytes hbase
    exact ⟨v', w', h2, h3, h4⟩
  | none =>
    obtain rfl := hnone rfl
    obtain rfl : news = [] := List.eq_nil_of_length_eq_zero (by simpa using hl)
    refine ⟨v, w, ?_, by simpa using hown, grownBy_self _ _⟩
    subst hsize
    rcases hown.2 with ⟨rfl, rfl⟩ | ⟨g, cap, cur, rfl, _, _, hnc, _⟩
    · simp [Builtin.append_, run_underlying ht, sizeOf, typeInfo, hi, Builtin.lenOf, Builtin.firstCells]
    · have hr := run_append_room_src (P := P) w t t ty e i ht hi g 0 n cap (.slice none 0 c) 0 [] (Src.ofNil w ht c) (by omega) (fun j hj => by simp at hj) (fun j hj => by simp at hj)
      simpa [World.setCells] using hr

theorem wl_append_any {P : Program} {w : World} {ops : Array Oper} {rest : List Oper} {o : Oper} {a : Act} {Q : Exit → Act → World → Prop} (hgd : o.guard = none) (s x : Operand) (t : TypeId)
    (ho : o.op = .call { callee := .builtin .append, args := #[s, x], argTypes := #[t, t] })
    (base : Nat) (e : TypeId) (i : TypeInfo) (z : Value) (size bytes : Nat) (ht : P.underlying t = some (.slice e)) (hi : P.info? e = some i) (hz : i.zero = some z)
    (hsize : i.size = size) (hby : i.bytes = bytes) (hzs : z.cells.size = size) (hsz : 0 < size) (v : Value) (n : Nat) (xs : List Value) (hs : a.eval s = v) (hown : w.ownsRow base e size v n xs)
    (aS : Option Addr) (m c : Nat) (news : List Value) (hx : a.eval x = .slice aS m c) (hl : news.length = m * size) (hsrc : ∀ ad, aS = some ad → ∀ j u, news[j]? = some u → w.cell? (ad.add j) = some u) (hnone : aS = none → m = 0) (h1 : ∀ u ∈ news, u.oneCell' = true)
    (h63 : n + m ≤ maxLen) (hbytes : (n + m) * bytes ≤ 140737488355328) (hbase : base ≤ w.heap.size)
    (h : ∀ v' w', w'.ownsRow base e size v' (n + m) (xs ++ news) → w.grownBy w' v.ownBlock → wpList P ops Q rest (a.put o.dst v') w') : wpList P ops Q (o :: rest) a w := by
  refine wpList_plain hgd fun K hK => ?_
  obtain ⟨v', w', hr, h2, h3⟩ := run_append_any (P := P) w base t o.type e i z size bytes ht hi hz hsize hby hzs hsz v n xs hown aS m c news hl hsrc hnone h1 h63 hbytes hbase
  unfold Oper.wp execOp
  simp only [ho, resolve, invoke, builtin, Sem.run_bind, Sem.run_pure, Result.andThen_ok, List.map_toArray, List.map_cons, List.map_nil, hs, hx, hr]
  exact hK _ _ (h v' w' h2 h3)

theorem step_append_any {P : Program} {w : World} {ops : Array Oper} {o : Oper} {a : Act} {K : Act → World → Prop} {Q : Exit → Act → World → Prop} {E : Prop} (hgd : o.guard = none) (s x : Operand) (t : TypeId)
    (ho : o.op = .call { callee := .builtin .append, args := #[s, x], argTypes := #[t, t] })
    (base : Nat) (e : TypeId) (i : TypeInfo) (z : Value) (size bytes : Nat) (ht : P.underlying t = some (.slice e)) (hi : P.info? e = some i) (hz : i.zero = some z)
    (hsize : i.size = size) (hby : i.bytes = bytes) (hzs : z.cells.size = size) (hsz : 0 < size) (v : Value) (n : Nat) (xs : List Value) (hs : a.eval s = v) (hown : w.ownsRow base e size v n xs)
    (aS : Option Addr) (m c : Nat) (news : List Value) (hx : a.eval x = .slice aS m c) (hl : news.length = m * size) (hsrc : ∀ ad, aS = some ad → ∀ j u, news[j]? = some u → w.cell? (ad.add j) = some u) (hnone : aS = none → m = 0) (h1 : ∀ u ∈ news, u.oneCell' = true)
    (h63 : n + m ≤ maxLen) (hbytes : (n + m) * bytes ≤ 140737488355328) (hbase : base ≤ w.heap.size)
    (h : ∀ v' w', w'.ownsRow base e size v' (n + m) (xs ++ news) → w.grownBy w' v.ownBlock → K (a.put o.dst v') w') :
    if Region.wanted o (yielded ops a.tmps) = true then Oper.wp P o a w K Q else E := by
  have hw : Region.wanted o (yielded ops a.tmps) = true := by simp [Region.wanted, hgd]
  rw [if_pos hw]
  obtain ⟨v', w', hr, h2, h3⟩ := run_append_any (P := P) w base t o.type e i z size bytes ht hi hz hsize hby hzs hsz v n xs hown aS m c news hl hsrc hnone h1 h63 hbytes hbase
  unfold Oper.wp execOp
  simp only [ho, resolve, invoke, builtin, Sem.run_bind, Sem.run_pure, Result.andThen_ok, List.map_toArray, List.map_cons, List.map_nil, hs, hx, hr]
  exact h v' w' h2 h3

theorem RowOf.src {α : Type} {f : α → Value} {w : World} {a : Option Addr} {cap : Nat} {l : List α} (h : RowOf f w a cap l) : (∀ ad, a = some ad → ∀ j u, (l.map f)[j]? = some u → w.cell? (ad.add j) = some u) ∧ (a = none → l.length = 0) := by
  rcases h.2 with rfl | ⟨b, off, rfl, _, hc⟩
  · exact ⟨fun _ _ j u hu => by simp at hu, fun _ => rfl⟩
  · refine ⟨fun ad e j u hu => ?_, fun e => by cases e⟩
    cases e
    rw [List.getElem?_map] at hu
    cases hx : l[j]? with
    | none => rw [hx] at hu; cases hu
    | some x =>
      rw [hx] at hu
      obtain rfl : f x = u := by simpa using hu
      rw [Addr.add_lit]
      exact hc j x hx
theorem rowOf_owns {α : Type} {f : α → Value} {w : World} {B : Nat} {e : TypeId} {v : Value} {l : List α} (h : w.ownsRow B e 1 v l.length (l.map f)) : ∃ a cap, v = .slice a l.length cap ∧ RowOf f w a cap l ∧ ∀ ad, a = some ad → B ≤ ad.block := by
  obtain ⟨_, ⟨rfl, h0⟩ | ⟨g, cap, cur, rfl, hg, hbk, hc, _, _, ht⟩⟩ := h
  · exact ⟨none, 0, by rw [h0], ⟨by omega, .inl (List.length_eq_zero_iff.1 h0)⟩, fun ad e => by cases e⟩
  · refine ⟨_, cap, rfl, ⟨hc, .inr ⟨g, 0, rfl, (Array.getElem?_eq_some_iff.1 hbk).1, fun j x hx => ?_⟩⟩, fun ad e => by cases e; exact hg⟩
    have hj : j < l.length := (List.getElem?_eq_some_iff.1 hx).1
    have h4 := congrArg (·[j]?) ht
    simp only [List.getElem?_take, Nat.mul_one, if_pos hj, List.getElem?_map, hx, Array.getElem?_toList] at h4
    simp [World.cell?, hbk, h4]
theorem RowOf.set {α : Type} {f : α → Value} {w : World} {a : Option Addr} {cap : Nat} {l : List α} (h : RowOf f w a cap l) {p : Addr} (hne : ∀ ad, a = some ad → ad.block ≠ p.block) (v : Value) : RowOf f (w.setCell p v) a cap l := by
  refine ⟨h.1, h.2.imp_right ?_⟩
  rintro ⟨b, off, rfl, hlt, hc⟩
  refine ⟨b, off, rfl, by simpa [World.setCell] using hlt, fun j x hx => ?_⟩
  rw [World.cell?_setCell_other _ _ _ _ (fun e => hne _ rfl (by rw [e]))]
  exact hc j x hx
theorem RowN.set {α : Type} {C : Nat} {f : α → List Value} {w : World} {a : Option Addr} {cap : Nat} {l : List α} (h : RowN C f w a cap l) {p : Addr} (hne : ∀ ad, a = some ad → ad.block ≠ p.block) (v : Value) : RowN C f (w.setCell p v) a cap l := by
  refine ⟨h.1, h.2.imp_right ?_⟩
  rintro ⟨b, off, rfl, hlt, hc⟩
  refine ⟨b, off, rfl, by simpa [World.setCell] using hlt, fun j x hx i u hu => ?_⟩
  rw [World.cell?_setCell_other _ _ _ _ (fun e => hne _ rfl (by rw [e]))]
  exact hc j x hx i u hu
theorem RowOf.sets {α : Type} {f : α → Value} {a : Option Addr} {cap : Nat} {l : List α} {b : Nat} (hne : ∀ ad, a = some ad → ad.block ≠ b) : ∀ {w : World}, RowOf f w a cap l → ∀ (o : Nat) (vs : List Value), RowOf f (w.setCells b o vs) a cap l := by
  intro w h o vs
  induction vs generalizing w o with
  | nil => exact h
  | cons v r ih => rw [World.setCells]; exact ih (h.set (p := ⟨b, o, none⟩) hne v) (o + 1)
theorem RowN.sets {α : Type} {C : Nat} {f : α → List Value} {a : Option Addr} {cap : Nat} {l : List α} {b : Nat} (hne : ∀ ad, a = some ad → ad.block ≠ b) : ∀ {w : World}, RowN C f w a cap l → ∀ (o : Nat) (vs : List Value), RowN C f (w.setCells b o vs) a cap l := by
  intro w h o vs
  induction vs generalizing w o with
  | nil => exact h
  | cons v r ih => rw [World.setCells]; exact ih (h.set (p := ⟨b, o, none⟩) hne v) (o + 1)
theorem flat_at {α : Type} {C : Nat} {f : α → List Value} : ∀ (l : List α), (∀ x ∈ l, (f x).length = C) → ∀ (j i : Nat) x v, l[j]? = some x → (f x)[i]? = some v → (l.flatMap f)[j * C + i]? = some v
  | [], _, j, i, x, v, hx, _ => by simp at hx
  | y :: r, hC, 0, i, x, v, hx, hv => by
    obtain rfl : y = x := by simpa using hx
    rw [List.flatMap_cons, Nat.zero_mul, Nat.zero_add, List.getElem?_append_left (List.getElem?_eq_some_iff.1 hv).1]
    exact hv
  | y :: r, hC, j + 1, i, x, v, hx, hv => by
    have h1 := hC y List.mem_cons_self
    have := flat_at r (fun x hx => hC x (List.mem_cons_of_mem _ hx)) j i x v (by simpa using hx) hv
    rw [List.flatMap_cons, List.getElem?_append_right (by rw [h1, Nat.succ_mul]; omega), h1, show (j + 1) * C + i - C = j * C + i by rw [Nat.succ_mul]; omega]
    exact this
theorem flat_len {α : Type} {C : Nat} {f : α → List Value} : ∀ (l : List α), (∀ x ∈ l, (f x).length = C) → (l.flatMap f).length = l.length * C
  | [], _ => by simp
  | y :: r, hC => by
    rw [List.flatMap_cons, List.length_append, hC y List.mem_cons_self, flat_len r fun x hx => hC x (List.mem_cons_of_mem _ hx), List.length_cons, Nat.succ_mul, Nat.add_comm]
theorem flat_back {α : Type} {C : Nat} {f : α → List Value} (hC0 : 0 < C) : ∀ (l : List α), (∀ x ∈ l, (f x).length = C) → ∀ (k : Nat) v, (l.flatMap f)[k]? = some v → ∃ x, l[k / C]? = some x ∧ (f x)[k % C]? = some v
  | [], _, k, v, hv => by simp at hv
  | y :: r, hC, k, v, hv => by
    have h1 := hC y List.mem_cons_self
    rw [List.flatMap_cons] at hv
    by_cases hk : k < C
    · rw [List.getElem?_append_left (by omega)] at hv
      exact ⟨y, by rw [Nat.div_eq_of_lt hk]; rfl, by rw [Nat.mod_eq_of_lt hk]; exact hv⟩
    · rw [List.getElem?_append_right (by omega), h1] at hv
      obtain ⟨x, hx, hm⟩ := flat_back hC0 r (fun x hx => hC x (List.mem_cons_of_mem _ hx)) (k - C) v hv
      have e1 : k / C = (k - C) / C + 1 := by rw [Nat.div_eq_sub_div hC0 (by omega)]
      have e2 : k % C = (k - C) % C := Nat.mod_eq_sub_mod (by omega)
      exact ⟨x, by rw [e1]; simpa using hx, by rw [e2]; exact hm⟩
theorem RowN.src {α : Type} {C : Nat} {f : α → List Value} {w : World} {a : Option Addr} {cap : Nat} {l : List α} (h : RowN C f w a cap l) (hC0 : 0 < C) (hC : ∀ x ∈ l, (f x).length = C) : (∀ ad, a = some ad → ∀ j u, (l.flatMap f)[j]? = some u → w.cell? (ad.add j) = some u) ∧ (a = none → l.length = 0) := by
  rcases h.2 with rfl | ⟨b, off, rfl, _, hc⟩
  · exact ⟨fun _ _ j u hu => by simp at hu, fun _ => rfl⟩
  · refine ⟨fun ad e j u hu => ?_, fun e => by cases e⟩
    cases e
    obtain ⟨x, hx, hv⟩ := flat_back hC0 l hC j u hu
    have := hc _ x hx _ u hv
    rw [Addr.add_lit]
    rwa [Nat.add_assoc, Nat.mul_comm, Nat.div_add_mod] at this
theorem rowN_owns {α : Type} {C : Nat} {f : α → List Value} {w : World} {B : Nat} {e : TypeId} {v : Value} {l : List α} (hC : ∀ x ∈ l, (f x).length = C) (h : w.ownsRow B e C v l.length (l.flatMap f)) : ∃ a cap, v = .slice a l.length cap ∧ RowN C f w a cap l ∧ ∀ ad, a = some ad → B ≤ ad.block := by
  obtain ⟨_, ⟨rfl, h0⟩ | ⟨g, cap, cur, rfl, hg, hbk, hc, _, _, ht⟩⟩ := h
  · exact ⟨none, 0, by rw [h0], ⟨by omega, .inl (List.length_eq_zero_iff.1 h0)⟩, fun ad e => by cases e⟩
  · refine ⟨_, cap, rfl, ⟨hc, .inr ⟨g, 0, rfl, (Array.getElem?_eq_some_iff.1 hbk).1, fun j x hx i u hu => ?_⟩⟩, fun ad e => by cases e; exact hg⟩
    have hj : j < l.length := (List.getElem?_eq_some_iff.1 hx).1
    have h5 := flat_at l hC j i x u hx hu
    have hlt : j * C + i < l.length * C := by
      have := (List.getElem?_eq_some_iff.1 h5).1
      rwa [flat_len l hC] at this
    have h4 := congrArg (·[j * C + i]?) ht
    simp only [List.getElem?_take, if_pos hlt, h5, Array.getElem?_toList] at h4
    simp [World.cell?, hbk, h4]
/-- A walk that is told to stand still here. -/
def Stopped (p : Prop) : Prop := p
theorem Stopped.go {p : Prop} (h : Stopped p) : p := h
theorem own_blk {w : World} {B : Nat} {e : TypeId} {C : Nat} {v : Value} {n : Nat} {xs : List Value} (h : w.ownsRow B e C v n xs) : ∀ k, v.ownBlock = some k → B ≤ k := fun k hk => by
  obtain ⟨_, ⟨rfl, _⟩ | ⟨g, cap, cur, rfl, hg, _⟩⟩ := h
  · cases hk
  · simp [Value.ownBlock] at hk
    omega
end Go.Proofs.Ytkannambildnoaa

namespace Go.Proofs.Ytkannambildnoaa
open Go.RowKit

/-- What was there in w0 is as it was. -/
def OldC (w0 w : World) : Prop := Below w0.heap.size w0 w
theorem OldC.self (w0 : World) : OldC w0 w0 := Below.refl _ _
theorem oldC_forall (w0 : World) (p : Prop) : (∀ w, OldC w0 w → p) = p := propext ⟨fun h => h w0 (OldC.self w0), fun h _ _ => h⟩
theorem OldC.then {w0 w w' : World} (h : OldC w0 w) (hb : Below w.heap.size w w') : OldC w0 w' := Below.trans h (hb.mono (Below.size h))
theorem wp_region_old {P : Program} {id : Nat} {Q : Exit → Act → World → Prop} {a : Act} {w : World} {l : List Oper} (hm : P.follows .mixedOrders = true) (hB : Region.lexB .any l.toArray = true)
    (h : wpQuiet P l.toArray (OldC w) (fun a' => ∀ w', OldC w w' → Q .normal a' w') l a) : (Code.region id l.toArray true).wp P Q a w :=
  wp_region_quiet (C := OldC w) hm hB ((Below.refl w.heap.size w).drew) (by simpa using h)
/-- An operation that yields one value in every world in which what was there is as it was. -/
theorem old_eq {P : Program} {o : Oper} {a : Act} {w0 : World} {K : Act → Prop} {v : Value} (h : ∀ w, OldC w0 w → (execOp a.eval o).run P w = .ok (.value v) w) : Oper.quiet P o a (OldC w0) K = K (a.put o.dst v) := by
  apply propext
  constructor
  · rintro ⟨u, h1, h2⟩
    have := h1 w0 (OldC.self w0)
    unfold Oper.quietAt at this
    rw [h w0 (OldC.self w0)] at this
    obtain ⟨_, rfl⟩ := this
    exact h2
  · intro hk
    exact ⟨v, fun w hw => by unfold Oper.quietAt; rw [h w hw]; exact ⟨rfl, rfl⟩, hk⟩
end Go.Proofs.Ytkannambildnoaa
