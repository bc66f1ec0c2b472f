/-
  The contract of the closure by which package fold sorts entries; that it is a strict weak order. No condition.
  The contract of slices.SortFunc at entries, compared by their paths: what the slice held, sorted. Conditions: the slice lies in memory that the call made itself, and holds at most 100000.
  Contracts of package fold's shown. Conditions: as each says.
  The contract of package fold's laid: what comes of a right layer that is laid over a tree. Conditions: both lie in memory; a tree of at most 1000 entries.
  The contract of package fold's Stack. Conditions: a stack in memory, of at most 100 layers, each of at most 1000 entries whose texts have at most 100000 bytes.
  The landed code's fold.Stack answers as Stack15 says. No condition beyond that.
-/
import Derived.Test.YtlnjbadbpddlmaaGreatDoorStrCmp
import Derived.Sort.Grow
import Derived.Sort.Statements
import Derived.Test.YtlnjbadbpddlmaaGreatDoorSrtLay
import Derived.Shelf.SlSortCmp.WholeK
import Derived.Shelf.SlSortCmp.NoneTotal
import Derived.Test.YtlnjbadbpddlmaaGreatDoorPj
import Derived.Test.YtlnjbadbpddlmaaGreatDoorPc
import Derived.Test.YtlnjbadbpddlmaaGreatDoorPh
import Derived.Test.YtlnjbadbpddlmaaGreatDoorPd
namespace Go.Proofs.YtlnjbadbpddlmaaGreatDoor
open Go.RowKit

/-- How two entries are compared. -/
def cf10 (x y : Ent) : Int := Lib.compareBytes (pl x) (pl y)
set_option maxHeartbeats 1000000 in
theorem sclo10 (x y : Ent) (W : World) : Calls Tryz.prog 32 #[enV x, enV y] W fun e w' => e = .returned (.int .i64 (cf10 x y)) ∧ ∃ q os', w' = Go.Sort.grow (W.drewN q) os' := by
  have HC := Lib.hid (fun W' => cmp10 x.1 y.1 W')
  obtain ⟨r, hr⟩ : ∃ r, cf10 x y = r := ⟨_, rfl⟩
  have HR := Lib.hid hr
  unfold cf10 pl at hr
  rw [hr] at HC
  rw [HR.out]
  clear hr HR
  go_enter Tryz.func32, Tryz.ntmps32
  go_wp2_with fail
  refine (HC.out _).mono ?_
  rintro e w' ⟨rfl, rfl⟩
  go_wp2
  go_ret
  exact ⟨rfl, 0, _, by rw [Go.Sort.alloc_eq_grow, Go.Sort.alloc_eq_grow, Go.Sort.grow_grow]; rfl⟩
end Go.Proofs.YtlnjbadbpddlmaaGreatDoor

namespace Go.Proofs.YtlnjbadbpddlmaaGreatDoor
open Go.RowKit Go.Sort

theorem swo10 : SWO (ltOf cf10) where
  irrefl x := by unfold ltOf cf10; rw [compare_lt]; exact lt8_irr _
  trans x y z h1 h2 := by unfold ltOf cf10 at *; rw [compare_lt] at *; exact lt8_trans h1 h2
  ntrans x y z h1 h2 := by
    unfold ltOf cf10 at *
    rw [compare_lt] at *
    cases h : lt8 (pl x) (pl z) with
    | false => rfl
    | true =>
      rcases lt8_tri (pl x) (pl y) with e | e | e
      · rw [e] at h; rw [h] at h2; cases h2
      · rw [e] at h1; cases h1
      · have := lt8_trans e h; rw [this] at h2; cases h2
theorem holdsK_own {w : World} {l : List Ent} {g : Nat} {cur : Array Value} (hbk : w.heap[g]? = some (.cells cur 41 (0, 0))) (ht : cur.toList.take (l.length * 3) = l.flatMap enc) : HoldsK enc 3 w g 0 l.toArray := by
  intro j hj
  rw [size_flatK, List.size_toArray] at hj
  have h3 : j / 3 < l.length := by omega
  have hm : j % 3 < 3 := by omega
  have h1 := flat_get l (j / 3) (j % 3) hm
  rw [show j / 3 * 3 + j % 3 = j by omega, ← ht, List.getElem?_take_of_lt hj, Array.getElem?_toList, List.getElem?_eq_getElem h3, Option.bind_some] at h1
  obtain ⟨v, hv⟩ : ∃ v, (enc l[j / 3])[j % 3]? = some v := ⟨_, List.getElem?_eq_getElem (show j % 3 < (enc l[j / 3]).length from hm)⟩
  rw [hv] at h1
  refine ⟨?_, ?_⟩
  · rw [Lib.cell_of_heap hbk, Nat.zero_add]
    show cur[j]? = some (id (flatK enc 3 l.toArray)[j]!)
    rw [h1, id, get_flatK enc 3 l.toArray j (by simpa using hj), getElem!_pos l.toArray (j / 3) (by simpa using h3)]
    simp only [List.getElem_toArray]
    rw [List.getElem!_eq_getElem?_getD, hv]
    rfl
  · rw [Nat.zero_add]
    simp [World.frozen?, hbk]
theorem ents_holdsK {w : World} {g cap : Nat} {d : Array Ent} (hH : HoldsK enc 3 w g 0 d) (hg : g < w.heap.size) (hc : d.size ≤ cap) : Ents w (some ⟨g, 0, none⟩) cap d.toList := by
  refine ⟨by simpa using hc, .inr ⟨g, 0, rfl, hg, fun j x hx i v hv => ?_⟩⟩
  obtain ⟨hj, hx⟩ := List.getElem?_eq_some_iff.1 hx
  obtain ⟨hi, hv'⟩ := List.getElem?_eq_some_iff.1 hv
  have h1 := (hH.cell (i := j) (c := i) (by simpa using hj) (by simpa using hi)).1
  rw [h1, getElem!_pos d j (by simpa using hj)]
  rw [Array.getElem_toList] at hx
  rw [hx, List.getElem!_eq_getElem?_getD, hv]
  rfl
theorem below_putRowK {B : Nat} {w : World} {g n : Nat} {d : Array Ent} {os : Array Obj} (hB : B ≤ g) (hBw : B ≤ w.heap.size) : Below B w (sortWorldK enc 3 w g 0 n d os) := by
  refine ⟨rfl, rfl, rfl, ?_, fun k hk => ?_⟩
  · unfold sortWorldK putRowK grow
    simp
  · unfold sortWorldK putRowK
    rw [heap_grow_old _ _ (by simp; omega)]
    unfold putRow mapBlock
    simp only [heap_ahead, Array.getElem?_modify]
    rw [if_neg (by omega)]
set_option maxRecDepth 100000 in
theorem sort10 (B : Nat) (v : Value) (l : List Ent) (w : World) (hown : OwnE w B v l) (hB : B ≤ w.heap.size) (hl : l.length ≤ 100000) :
    Calls Tryz.prog 31 #[v, .func (.func 32) #[] #[]] w fun e w' => e = .returned (.tuple #[]) ∧ ∃ (l' : List Ent) (a : Option Addr) (cap : Nat), v = .slice a l'.length cap ∧ l'.Perm l ∧ l'.Pairwise (fun x y => lt8 (pl y) (pl x) = false) ∧ Ents w' a cap l' ∧ Below B w w' := by
  by_cases h0 : l = []
  · subst h0
    obtain ⟨a, cap, rfl, hE⟩ := ents_of_own hown
    refine (AnyF.slices_SortFunc_none Tryz.sortEnt a cap _ w).mono ?_
    rintro e w' ⟨rfl, rfl⟩
    exact ⟨rfl, [], a, cap, rfl, .refl _, .nil, hE, Below.refl _ _⟩
  · obtain ⟨_, ⟨_, hn⟩ | ⟨g, cap, cur, rfl, hg, hbk, hc, _, _, ht⟩⟩ := hown
    · exact absurd (List.length_eq_zero_iff.1 hn) h0
    · have hH := holdsK_own hbk ht
      have hlt : g < w.heap.size := (Array.getElem?_eq_some_iff.1 hbk).1
      have hS := AnyQ.slices_SortFunc Tryz.sortEnt 3 (by intro w; kernel_rfl) (by intro w; kernel_rfl) enc (fun _ => rfl) (fun x v hv => by simp at hv; rcases hv with rfl | rfl | rfl <;> rfl) cf10 swo10 32 #[] g 0 cap l.toArray w (enters_of Tryz.func32 (by kernel_rfl) rfl) (fun _ _ _ _ x y => sclo10 x y _) hH hlt (by simp; omega)
      rw [List.size_toArray] at hS
      refine Calls.mono hS ?_
      rintro e w' ⟨rfl, d', n, os, ⟨hp1, _, hp3⟩, hs, rfl⟩
      have he : d'.size = l.length := by simpa using hp1
      have e1 : d'.extract 0 l.length = d' := by rw [← he, Array.extract_size]
      have e2 : l.toArray.extract 0 l.length = l.toArray := by
        have h := Array.extract_size (xs := l.toArray)
        rwa [List.size_toArray] at h
      rw [e1, e2] at hp3
      refine ⟨rfl, d'.toList, some ⟨g, 0, none⟩, cap, by simp [he], by simpa using hp3, ?_, ?_, below_putRowK hg hB⟩
      · rw [List.pairwise_iff_getElem]
        intro i j hi hj hij
        have h1 := hs i j (Nat.zero_le _) hij (by rw [← he]; simpa using hj)
        rw [getElem!_pos d' j (by simpa using hj), getElem!_pos d' i (by simpa using hi)] at h1
        unfold ltOf cf10 at h1
        rw [compare_lt] at h1
        simpa using h1
      · refine ents_holdsK ?_ (by unfold sortWorldK putRowK grow; simp; omega) (by rw [he]; exact hc)
        unfold sortWorldK
        exact holdsK_grow enc 3 _ _ _ _ _ (by unfold putRowK; simpa using hlt) (holdsK_putRowK enc 3 _ _ _ _ _ (holdsK_ahead enc 3 w n g 0 _ hH) (by simp [he]))
end Go.Proofs.YtlnjbadbpddlmaaGreatDoor

namespace Go.Proofs.YtlnjbadbpddlmaaGreatDoor
open Go.RowKit

theorem results_cellE {fn : Func} {p : Tmp} {ty : TypeId} (h : fn.results = #[.cell p ty]) (tmps : Array Value) (P : Program) (w : World) :
    (results fn tmps).run P w = ((asAddr (tmps.getD p undef)).run P w).andThen fun a w₁ => (loadVar ty a).run P w₁ := by
  simp only [results, h]
  simp [Sem.run_bind, Result.andThen]
theorem sh_dir {e : Ent} (h : rE e = true) (h1 : e.2.1 ≠ 1) : sh e = (e.1, 2, e.2.2) := by
  unfold sh
  rw [if_neg h1]
  obtain ⟨_, _, _, _, h5⟩ := rightE_parts h
  rcases h5 with h5 | h5
  · exact absurd h5 h1
  · unfold dE
    rw [show e.2.2 = ⟨#[]⟩ from ba_ext (List.length_eq_zero_iff.1 (by rw [← Lib.size_eq]; exact h5))]
set_option maxHeartbeats 1000000 in
theorem shown10 (e : Ent) (h : rE e = true) (h3 : e.2.1 ≠ 3) (w : World) : Calls Tryz.prog 30 #[enV e] w fun r w' => r = .returned (enV (sh e)) ∧ Below w.heap.size w w' := by
  obtain ⟨W, hW⟩ : ∃ W, w.alloc (.cells #[.string e.1, .int .i64 e.2.1, .string e.2.2] 41) = W := ⟨_, rfl⟩
  obtain ⟨M, hM⟩ : ∃ M, w.heap.size = M := ⟨_, rfl⟩
  obtain ⟨V, hV⟩ : ∃ V, W.alloc (.cells #[.string ⟨#[]⟩, .int .i64 0, .string ⟨#[]⟩] 41) = V := ⟨_, rfl⟩
  obtain ⟨O, hO⟩ : ∃ O, W.heap.size = O := ⟨_, rfl⟩
  have hb0 : Below w.heap.size w W := by rw [← hW]; exact (Below.refl _ _).alloc (Nat.le_refl _) _
  have hb1 : Below W.heap.size W V := by rw [← hV]; exact (Below.refl _ _).alloc (Nat.le_refl _) _
  have q0 : EnAt W M e.1 e.2.1 e.2.2 := by rw [← hW, ← hM]; exact enAt_new _ _ _ _
  have q1 : EnAt V M e.1 e.2.1 e.2.2 := q0.below hb1
  have r1 : EnAt V O ⟨#[]⟩ 0 ⟨#[]⟩ := by rw [← hV, ← hO]; exact enAt_new _ _ _ _
  have HNE := Lib.hid (show M ≠ O ∧ w.heap.size ≤ M ∧ w.heap.size ≤ O by
    have := q0.lt
    have := hb0.size
    omega)
  have HB := Lib.hid (hb0.trans (hb1.mono hb0.size))
  have HQ := Lib.hid q1
  have HR := Lib.hid r1
  clear hb0 hb1 q0
  have called : (e.2.1 = 1 ∧ (e.2.1 == 2 || e.2.1 == 4) = false) ∨ (e.2.1 ≠ 1 ∧ (e.2.1 == 2 || e.2.1 == 4) = true) := by
    have hk := kind_of h
    by_cases h1 : e.2.1 = 1
    · exact .inl ⟨h1, by rw [h1]; rfl⟩
    · refine .inr ⟨h1, ?_⟩
      have : e.2.1 = 2 ∨ e.2.1 = 4 := by omega
      rcases this with h | h <;> rw [h] <;> rfl
  have c0 := q1.c0
  have c1 := q1.c1
  have c2 := q1.c2
  clear q1 r1
  rcases called with ⟨h1, hv⟩ | ⟨h1, hv⟩
  · have HV := Lib.hid (show sh e = e by unfold sh; rw [if_pos h1])
    have HH := Lib.hid hv
    clear h h3 h1 hv
    go_enter Tryz.func30, Tryz.ntmps30
    go_wp2_with fail
    refine (holds8 e.1 e.2.2 e.2.1 V).mono ?_
    rintro r w1 ⟨rfl, hb⟩
    rw [HH.out]
    have HB1 := Lib.hid (HB.out.trans (hb.mono HB.out.size))
    have HQ1 := Lib.hid (HQ.out.below hb)
    have HR1 := Lib.hid (HR.out.below hb)
    clear hb c0 c1 c2
    have c0 := HQ1.out.c0
    have c1 := HQ1.out.c1
    have c2 := HQ1.out.c2
    have r0 := HR1.out.c0
    have r1 := HR1.out.c1
    have r2 := HR1.out.c2
    have f0 := HR1.out.f0
    have f1 := HR1.out.f1
    have f2 := HR1.out.f2
    go_wp2
    have hld := lv_en (HR1.out.set e.1 e.2.1 e.2.2)
    refine bodyPost_ret (v := enV e) ?_ rfl ⟨by rw [HV.out], below_en3 HB1.out HNE.out.2.2 _ _ _⟩
    rw [results_cellE rfl]
    simp [asAddr, Result.andThen, hld]
  · have HV := Lib.hid (sh_dir h h1)
    have HH := Lib.hid hv
    clear h h3 h1 hv
    go_enter Tryz.func30, Tryz.ntmps30
    go_wp2_with fail
    refine (holds8 e.1 e.2.2 e.2.1 V).mono ?_
    rintro r w1 ⟨rfl, hb⟩
    rw [HH.out]
    have HB1 := Lib.hid (HB.out.trans (hb.mono HB.out.size))
    have HQ1 := Lib.hid (HQ.out.below hb)
    have HR1 := Lib.hid (HR.out.below hb)
    clear hb c0 c1 c2
    have c0 := HQ1.out.c0
    have c1 := HQ1.out.c1
    have c2 := HQ1.out.c2
    have g1 := HQ1.out.f1
    have r0 := HR1.out.c0
    have r1 := HR1.out.c1
    have r2 := HR1.out.c2
    have f0 := HR1.out.f0
    have f1 := HR1.out.f1
    have f2 := HR1.out.f2
    have hne : ¬ M = O := HNE.out.1
    have hne2 : ¬ O = M := fun h => HNE.out.1 h.symm
    go_wp2
    have h5 : EnAt (w1.setCell ⟨M, 1, none⟩ (.int .i64 2)) O ⟨#[]⟩ 0 ⟨#[]⟩ := HR1.out.of (Below.heap_setCell _ _ _ _ hne2)
    have hld := lv_en (h5.set e.1 2 e.2.2)
    refine bodyPost_ret (v := entV e.1 2 e.2.2) ?_ rfl ⟨by rw [HV.out], below_en3 (HB1.out.setCell (p := ⟨M, 1, none⟩) HNE.out.2.1 _) HNE.out.2.2 _ _ _⟩
    rw [results_cellE rfl]
    simp [asAddr, Result.andThen, hld]
end Go.Proofs.YtlnjbadbpddlmaaGreatDoor

namespace Go.Proofs.YtlnjbadbpddlmaaGreatDoor
open Go.RowKit

/-- A greater bound: an entry at the end of a slice that a call made itself, the entry in a new block. -/
theorem wl_putG {w : World} {ops : Array Oper} {rest : List Oper} {o : Oper} {a : Act} {Q : Exit → Act → World → Prop} (hgd : o.guard = none) (s x : Operand)
    (ho : o.op = .call { callee := .builtin .append, args := #[s, x], argTypes := #[23, 23] }) (B : Nat) (v : Value) (l : List Ent) (e : Ent) (hs : a.eval s = v) (hown : OwnE w B v l) (hB : B ≤ w.heap.size)
    (M : Nat) (hx : a.eval x = .slice (some ⟨M, 0, none⟩) 1 1) (hM : EnAt w M e.1 e.2.1 e.2.2) (hl : l.length ≤ 100000)
    (h : ∀ v' w', OwnE w' B v' (l ++ [e]) → w.grownBy w' v.ownBlock → wpList Tryz.prog ops Q rest (a.put o.dst v') w') : wpList Tryz.prog ops Q (o :: rest) a w := by
  obtain ⟨ie, hie, hz, hsz, hby⟩ := info_parts infoEn
  refine wl_append_any hgd s x 23 ho B 41 ie _ 3 40 Tryz.underlying23 hie hz hsz hby rfl (by decide) v l.length _ hs hown (some ⟨M, 0, none⟩) 1 1 (enc e) hx rfl ?_ (fun e => by cases e) ?_ (by unfold maxLen; omega) (by omega) hB ?_
  · intro ad e1 j u hu
    cases e1
    rw [Addr.add_lit]
    exact hM.range j u hu
  · intro u hu
    rcases List.mem_cons.1 hu with rfl | hu
    · rfl
    rcases List.mem_cons.1 hu with rfl | hu
    · rfl
    rcases List.mem_cons.1 hu with rfl | hu
    · rfl
    cases hu
  · intro v' w' h1 h2
    refine h v' w' ?_ h2
    unfold OwnE
    rw [List.length_append, List.flatMap_append]
    simpa using h1
set_option maxRecDepth 10000 in
set_option maxHeartbeats 4000000 in
theorem laid10 (t l : List Ent) (a : Option Addr) (cap : Nat) (a2 : Option Addr) (cap2 : Nat) (w : World) (ht : Ents w a cap t) (hl : Ents w a2 cap2 l) (hT : TR t) (hR : RightL l) (hn : t.length ≤ 1000) :
    Calls Tryz.prog 20 #[.slice a t.length cap, .slice a2 l.length cap2] w fun e w' => ∃ a' cap', e = .returned (.slice a' (over t l).length cap') ∧ Ents w' a' cap' (over t l) ∧ Below w.heap.size w w' := by
  have HC := Lib.hid (gone10 l a2 cap2 w hl (sm_right hR))
  have HT := Lib.hid hT
  have HR := Lib.hid hR
  have HN := Lib.hid hn
  have HET := Lib.hid ht
  have HEL := Lib.hid hl
  have HPS := Lib.hid (fun c hp hs => pile_sorted (c := c) hT.1.2.1 hR.2.2.1 hR.2.1 hp hs)
  have HPL := Lib.hid (pile_len t l)
  clear ht hl hT hR hn
  go_enter Tryz.func20, Tryz.ntmps20
  go_wp2_with fail
  refine HC.out.mono ?_
  rintro e w1 ⟨P, rfl, hg, hb⟩
  have HB1 := Lib.hid hb
  have HG := Lib.hid hg
  replace HET := Lib.hid (RowN.below HET.out hb)
  replace HEL := Lib.hid (RowN.below HEL.out hb)
  clear hg hb
  go_wp2
  go_loopg [6, 15] t.length (fun g v i wx => ∃ (k : Nat), i = .int .i64 (k : Int) ∧ k + g = t.length ∧ Hid (OwnE wx w1.heap.size v (kept (t.take k) l)) ∧ Hid (Below w1.heap.size w1 wx))
  case atStart => exact ⟨0, rfl, by omega, ownE_nil _ _, Below.refl _ _⟩
  case round =>
    obtain ⟨k, rfl, hk, HO, HB⟩ := hrel
    have hw : IntKind.i64.wrap ((k : Int) + 1) = (k : Int) + 1 := IntWalk.i64_in _ (by have := HN.out; omega)
    by_cases hlt : k < t.length
    · have hlt' : (k : Int) < (t.length : Int) := by omega
      obtain ⟨b, off, rfl, hb, hc⟩ := Ents.at HET.out HB.out hlt
      have HX := Lib.hid (HT.out.1.1 _ (List.getElem_mem hlt))
      have HK := Lib.hid (show kept (t.take (k + 1)) l = if goes l t[k] = true then kept (t.take k) l else kept (t.take k) l ++ [t[k]] by rw [take_sn t k hlt, kept_snoc])
      have HLN := Lib.hid (show (kept (t.take k) l).length ≤ 100000 by
        have h1 : (kept (t.take k) l).length ≤ (t.take k).length := List.length_filter_le _ _
        have := HN.out
        rw [List.length_take] at h1
        omega)
      obtain ⟨x, hx⟩ : ∃ x, t[k] = x := ⟨_, rfl⟩
      rw [hx] at hc HX HK
      have c0 := hc.c0
      have c1 := hc.c1
      have c2 := hc.c2
      obtain ⟨W, hW⟩ : ∃ W, wr.alloc (.cells #[.string x.1, .int .i64 x.2.1, .string x.2.2] 41) = W := ⟨_, rfl⟩
      obtain ⟨M, hM⟩ : ∃ M, wr.heap.size = M := ⟨_, rfl⟩
      have hbW : Below wr.heap.size wr W := by rw [← hW]; exact (Below.refl _ _).alloc (Nat.le_refl _) _
      have hq : EnAt W M x.1 x.2.1 x.2.2 := by rw [← hW, ← hM]; exact enAt_new _ _ _ _
      have HQ := Lib.hid hq
      have q0 := hq.c0
      have q1 := hq.c1
      have q2 := hq.c2
      have HBW := Lib.hid (HB.out.trans (hbW.mono HB.out.size))
      have HOW := Lib.hid (HO.out.below hbW)
      have HCC := Lib.hid (gclo10 l w.heap.size P x W (HG.out.below HBW.out) HR.out.2.2.1 HR.out.2.1 HX.out)
      clear hc hx hb hbW hq
      go_wp2_with fail
      refine HCC.out.mono ?_
      rintro e w2 ⟨rfl, hb⟩
      have HB2 := Lib.hid (HBW.out.trans (hb.mono HBW.out.size))
      have HO2 := Lib.hid (HOW.out.below hb)
      have HQ2 := Lib.hid (HQ.out.below hb)
      clear hb q0 q1 q2
      cases hgo : goes l x with
      | true =>
        rw [hgo, if_pos rfl] at HK
        clear hgo
        go_wp2
        go_roundg (gk - 1)
        case measure => omega
        case rel => exact ⟨k + 1, by simp, by omega, by rw [HK.out]; exact HO2.out, HB2.out⟩
      | false =>
        rw [hgo, if_neg (by simp)] at HK
        clear hgo
        have q0 := HQ2.out.c0
        have q1 := HQ2.out.c1
        have q2 := HQ2.out.c2
        go_wp2_with (at_builtin; refine Stopped.go ?_)
        unfold Stopped
        refine wl_putG (by rfl) _ _ (by rfl) w1.heap.size u6 _ x (by rfl) (HO2.out.below ((Below.refl _ _).alloc (Nat.le_refl _) _)) (by have := HB2.out.size; simp; omega) w2.heap.size (by rfl) (enAt_new w2 x.1 x.2.1 x.2.2) HLN.out ?_
        intro v6 w6 ho hg
        have HB6 := Lib.hid ((HB2.out.alloc HB2.out.size (.cells #[.string x.1, .int .i64 x.2.1, .string x.2.2] 41)).grown hg (by have := HB2.out.size; simp; omega) (fun k hk => (ownE_blk HO2.out k hk).1))
        have HO6 := Lib.hid ho
        clear ho hg
        go_wp2
        go_roundg (gk - 1)
        case measure => omega
        case rel => exact ⟨k + 1, by simp, by omega, by rw [HK.out]; exact HO6.out, HB6.out⟩
    · have hlt' : ¬ (k : Int) < (t.length : Int) := by omega
      have HK := Lib.hid (show kept (t.take k) l = kept t l by rw [List.take_of_length_le (by omega)])
      rw [HK.out] at HO
      go_wp2
      clear hw hlt hlt' hk HK
      go_loopg [6, 30] l.length (fun g v i wx => ∃ (k : Nat), i = .int .i64 (k : Int) ∧ k + g = l.length ∧ Hid (OwnE wx w1.heap.size v (kept t l ++ news (l.take k))) ∧ Hid (Below w1.heap.size w1 wx))
      case atStart => exact ⟨0, rfl, by omega, by simpa [news, Hid] using HO.out, HB.out⟩
      case round =>
        obtain ⟨j, rfl, hj, HO3, HB3⟩ := hrel
        have hw : IntKind.i64.wrap ((j : Int) + 1) = (j : Int) + 1 := IntWalk.i64_in _ (by have := HR.out.1; omega)
        by_cases hlt : j < l.length
        · have hlt' : (j : Int) < (l.length : Int) := by omega
          obtain ⟨b, off, rfl, hb, hc⟩ := Ents.at HEL.out HB3.out hlt
          have HX := Lib.hid (HR.out.2.1 _ (List.getElem_mem hlt))
          have HK := Lib.hid (show news (l.take (j + 1)) = if l[j].2.1 = 3 then news (l.take j) else news (l.take j) ++ [sh l[j]] by rw [take_sn l j hlt, news_snoc])
          have HLN := Lib.hid (show (kept t l ++ news (l.take j)).length ≤ 100000 by
            have h1 : (kept t l).length ≤ t.length := List.length_filter_le _ _
            have h2 : (news (l.take j)).length ≤ (l.take j).length := by unfold news; rw [List.length_map]; exact List.length_filter_le _ _
            have := HN.out
            have := HR.out.1
            rw [List.length_take] at h2
            rw [List.length_append]
            omega)
          obtain ⟨x, hx⟩ : ∃ x, l[j] = x := ⟨_, rfl⟩
          rw [hx] at hc HX HK
          have c0 := hc.c0
          have c1 := hc.c1
          have c2 := hc.c2
          obtain ⟨W, hW⟩ : ∃ W, wr.alloc (.cells #[.string x.1, .int .i64 x.2.1, .string x.2.2] 41) = W := ⟨_, rfl⟩
          obtain ⟨M, hM⟩ : ∃ M, wr.heap.size = M := ⟨_, rfl⟩
          have hbW : Below wr.heap.size wr W := by rw [← hW]; exact (Below.refl _ _).alloc (Nat.le_refl _) _
          have hq : EnAt W M x.1 x.2.1 x.2.2 := by rw [← hW, ← hM]; exact enAt_new _ _ _ _
          have q0 := hq.c0
          have q1 := hq.c1
          have q2 := hq.c2
          have HBW := Lib.hid (HB3.out.trans (hbW.mono HB3.out.size))
          have HOW := Lib.hid (HO3.out.below hbW)
          clear hc hx hb hbW hq
          by_cases h3 : x.2.1 = 3
          · rw [if_pos h3] at HK
            have g1 : (x.2.1 == 3) = true := by rw [h3]; rfl
            have g2 : (x.2.1 != 3) = false := by rw [h3]; rfl
            clear h3
            go_wp2
            go_roundg (l.length - (j + 1))
            case measure => omega
            case rel => exact ⟨j + 1, by simp, by omega, by rw [HK.out]; exact HOW.out, HBW.out⟩
          · rw [if_neg h3] at HK
            have g1 : (x.2.1 == 3) = false := beq_eq_false_iff_ne.2 h3
            have g2 : (x.2.1 != 3) = true := by rw [bne, g1]; rfl
            have HCC := Lib.hid (shown10 x HX.out h3 W)
            obtain ⟨y, hy⟩ : ∃ y, sh x = y := ⟨_, rfl⟩
            rw [hy] at HCC HK
            clear h3 hy
            go_wp2_with fail
            refine HCC.out.mono ?_
            rintro e w2 ⟨rfl, hb⟩
            have HB2 := Lib.hid (HBW.out.trans (hb.mono HBW.out.size))
            have HO2 := Lib.hid (HOW.out.below hb)
            clear hb q0 q1 q2
            go_wp2_with (at_builtin; refine Stopped.go ?_)
            unfold Stopped
            refine wl_putG (by rfl) _ _ (by rfl) w1.heap.size u6 _ y (by rfl) (HO2.out.below ((Below.refl _ _).alloc (Nat.le_refl _) _)) (by have := HB2.out.size; simp; omega) w2.heap.size (by rfl) (enAt_new w2 y.1 y.2.1 y.2.2) HLN.out ?_
            intro v6 w6 ho hg
            have HB6 := Lib.hid ((HB2.out.alloc HB2.out.size (.cells #[.string y.1, .int .i64 y.2.1, .string y.2.2] 41)).grown hg (by have := HB2.out.size; simp; omega) (fun k hk => (ownE_blk HO2.out k hk).1))
            have HO6 := Lib.hid ho
            clear ho hg
            go_wp2
            go_roundg (l.length - (j + 1))
            case measure => omega
            case rel => exact ⟨j + 1, by simp, by omega, by rw [HK.out, ← List.append_assoc]; exact HO6.out, HB6.out⟩
        · have hlt' : ¬ (j : Int) < (l.length : Int) := by omega
          have HK := Lib.hid (show news (l.take j) = news l by rw [List.take_of_length_le (by omega)])
          rw [HK.out] at HO3
          go_wp2_with fail
          refine (sort10 w1.heap.size u6 _ _ HO3.out HB3.out.size (by have := HPL.out; have := HN.out; have := HR.out.1; omega)).mono ?_
          rintro e w3 ⟨rfl, l', a3, cap3, rfl, hp, hs, hE, hb⟩
          obtain rfl := HPS.out _ hp hs
          have HB4 := Lib.hid (HB1.out.trans ((HB3.out.trans hb).mono HB1.out.size))
          have HE4 := Lib.hid hE
          clear hp hs hE hb
          go_wp2
          go_ret
          exact ⟨a3, cap3, rfl, HE4.out, HB4.out⟩
end Go.Proofs.YtlnjbadbpddlmaaGreatDoor

namespace Go.Proofs.YtlnjbadbpddlmaaGreatDoor
open Go.RowKit

set_option maxRecDepth 10000 in
set_option maxHeartbeats 2000000 in
theorem stack10 (S : List (List Ent)) (a : Option Addr) (cap : Nat) (w : World) (h : Stk w a cap S) (hs : ∀ l ∈ S, Sm l) :
    Calls Tryz.prog 12 #[.slice a S.length cap] w fun e w' => ∃ a' cap', e = .returned (.slice a' (stV S).length cap') ∧ Ents w' a' cap' (stV S) ∧ Below w.heap.size w w' := by
  have HE := Lib.hid h
  have HS := Lib.hid hs
  clear h hs
  by_cases h9 : S.length ≤ 9
  · have g9 : ¬ (9 : Int) < (S.length : Int) := by omega
    have HL := Lib.hid h9
    go_enter Tryz.func12, Tryz.ntmps12
    go_wp2
    go_loopg [3, 11] S.length (fun g v i wx => ∃ (k : Nat) (a5 : Option Addr) (cap5 : Nat) (o : List Ent), v = .slice a5 o.length cap5 ∧ i = .int .i64 (k : Int) ∧ k + g = S.length ∧ Hid (o = stk (S.take k) ∧ ∀ l ∈ S.take k, RightL l) ∧ Hid (Ents wx a5 cap5 o) ∧ Hid (Below w.heap.size w wx))
    case atStart => exact ⟨0, none, 0, [], rfl, rfl, by omega, ⟨rfl, by simp⟩, ents_nil _ _ _, Below.refl _ _⟩
    case round =>
      obtain ⟨k, a5, cap5, o, rfl, rfl, hk, HO, HEO, HB⟩ := hrel
      by_cases hlt : k < S.length
      · have hlt' : (k : Int) < (S.length : Int) := by omega
        have hw : IntKind.i64.wrap ((k : Int) + 1) = (k : Int) + 1 := IntWalk.i64_in _ (by omega)
        have HTO := Lib.hid (show TR o by rw [HO.out.1]; exact tr_stk HO.out.2)
        have HOL := Lib.hid (show o.length ≤ 1000 by
          have h1 := stk_len HO.out.2
          have := HL.out
          rw [List.length_take] at h1
          rw [HO.out.1]
          omega)
        obtain ⟨b, off, a', cap', rfl, hc, hE⟩ := HE.out.at HB.out hlt
        have HX := Lib.hid (HS.out _ (List.getElem_mem hlt))
        have HMX := Lib.hid (List.getElem_mem hlt)
        have HN := Lib.hid (take_get S k hlt)
        obtain ⟨x, hx⟩ : ∃ x, S[k] = x := ⟨_, rfl⟩
        rw [hx] at hc hE HX HN HMX
        have HEx := Lib.hid hE
        clear hx hE
        by_cases hr : RightL x
        · have HRX := Lib.hid hr
          go_wp2_with fail
          refine (right9 x a' cap' _ HEx.out HX.out).mono ?_
          rintro e w1 ⟨rfl, hb⟩
          rw [decide_eq_true hr]
          have HB1 := Lib.hid (HB.out.trans (hb.mono HB.out.size))
          replace HEx := Lib.hid (RowN.below HEx.out hb)
          replace HEO := Lib.hid (RowN.below HEO.out hb)
          clear hb hc hr
          go_wp2_with fail
          refine (laid10 o x a5 cap5 a' cap' _ HEO.out HEx.out HTO.out HRX.out HOL.out).mono ?_
          rintro e w2 ⟨a8, cap8, rfl, h8, hb⟩
          have HB2 := Lib.hid (HB1.out.trans (hb.mono HB1.out.size))
          have HE8 := Lib.hid h8
          have HNN := Lib.hid (show over o x = stk (S.take (k + 1)) ∧ ∀ l ∈ S.take (k + 1), RightL l from ⟨by rw [HN.out, stk_snoc, HO.out.1], fun l hl => by
            rw [HN.out] at hl
            rcases List.mem_append.1 hl with hl | hl
            · exact HO.out.2 l hl
            · obtain rfl : l = x := by simpa using hl
              exact HRX.out⟩)
          clear hb h8
          go_wp2
          go_roundg (gk - 1)
          case measure => omega
          case rel => exact ⟨k + 1, a8, cap8, _, rfl, by simp, by omega, HNN.out, HE8.out, HB2.out⟩
        · have HV := Lib.hid (show stV S = [] by unfold stV; rw [if_neg fun h => hr (h.2 x HMX.out)])
          go_wp2_with fail
          refine (right9 x a' cap' _ HEx.out HX.out).mono ?_
          rintro e w1 ⟨rfl, hb⟩
          rw [decide_eq_false hr]
          have HB1 := Lib.hid (HB.out.trans (hb.mono HB.out.size))
          clear hb hc hr
          go_wp2
          go_ret
          exact ⟨none, 0, by rw [HV.out]; rfl, by rw [HV.out]; exact ents_nil _ _ _, HB1.out⟩
      · have hlt' : ¬ (k : Int) < (S.length : Int) := by omega
        have HV := Lib.hid (show stV S = o by
          have h1 := HO.out
          rw [List.take_of_length_le (by omega)] at h1
          unfold stV
          rw [if_pos ⟨HL.out, h1.2⟩, h1.1])
        go_wp2
        go_ret
        exact ⟨a5, cap5, by rw [HV.out]; rfl, by rw [HV.out]; exact HEO.out, HB.out⟩
  · have g9 : (9 : Int) < (S.length : Int) := by omega
    have HV := Lib.hid (show stV S = [] by unfold stV; rw [if_neg fun h => h9 h.1])
    clear h9
    go_enter Tryz.func12, Tryz.ntmps12
    go_wp2
    go_ret
    exact ⟨none, 0, by rw [HV.out]; rfl, by rw [HV.out]; exact ents_nil _ _ _, Below.refl _ _⟩
end Go.Proofs.YtlnjbadbpddlmaaGreatDoor

namespace Go.Proofs.YtlnjbadbpddlmaaGreatDoor
open Go.RowKit

theorem stack15c : Stack15 := fun S a cap w _ h _ hs => by
  have := stack10 S a cap w h hs
  rw [show stV S = fsV S from rfl] at this
  exact this
end Go.Proofs.YtlnjbadbpddlmaaGreatDoor
