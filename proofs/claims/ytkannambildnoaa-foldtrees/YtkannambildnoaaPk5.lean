/-
  The contract of package fold's laid: what comes of a right layer that is laid over a tree. Conditions: both lie in memory; a tree of at most 1000 entries.
  Where in a rising list an entry at a path stands or would stand: what stands ahead of it, the entry there, the list with one put there and without it. No condition.
  Contracts of sort.Search with package layer's closure, and of layer.place: where in a rising list an entry at a path stands or would stand, and whether one does. Conditions: the list lies in memory, rises, has at most 1000 entries.
  The contract of layer.housed: whether a right entry lies in the root or in a directory of a rising list. Conditions: the list lies in memory, rises, has at most 1000 entries; the entry is right.
  The contract of layer.Right. Conditions: the list lies in memory, has at most 1000 entries, its texts at most 100000 bytes.
  The contract of package fold's Tree. Conditions: the list lies in memory, has at most 1000 entries, its texts at most 100000 bytes.
  Package fold's functions answer as Fold10 says. Conditions: those of Fold10.
  What the statements of layer 10 share: the document's example. Condition: package fold answers as Fold10 says.
-/
import Derived.Test.YtkannambildnoaaPk4
import Derived.Deep.LoopGhost
import Derived.Lib.Hide
import Derived.IntWalk
import Derived.BigQuiet
import Derived.Laws.Cover1
namespace Go.Proofs.Ytkannambildnoaa
open Go.RowKit

/-- A greater bound: an entry at the end of a slice that a call made itself, the entry in a new block. -/
theorem wl_putG {w : World} {ops : Array Oper} {rest : List Oper} {o : Oper} {a : Act} {Q : Exit → Act → World → Prop} (hgd : o.guard = none) (s x : Operand)
    (ho : o.op = .call { callee := .builtin .append, args := #[s, x], argTypes := #[23, 23] }) (B : Nat) (v : Value) (l : List Ent) (e : Ent) (hs : a.eval s = v) (hown : OwnE w B v l) (hB : B ≤ w.heap.size)
    (M : Nat) (hx : a.eval x = .slice (some ⟨M, 0, none⟩) 1 1) (hM : EnAt w M e.1 e.2.1 e.2.2) (hl : l.length ≤ 100000)
    (h : ∀ v' w', OwnE w' B v' (l ++ [e]) → w.grownBy w' v.ownBlock → wpList Try.prog ops Q rest (a.put o.dst v') w') : wpList Try.prog ops Q (o :: rest) a w := by
  obtain ⟨ie, hie, hz, hsz, hby⟩ := info_parts infoEn
  refine wl_append_any hgd s x 23 ho B 34 ie _ 3 40 Try.underlying23 hie hz hsz hby rfl (by decide) v l.length _ hs hown (some ⟨M, 0, none⟩) 1 1 (enc e) hx rfl ?_ (fun e => by cases e) ?_ (by unfold maxLen; omega) (by omega) hB ?_
  · intro ad e1 j u hu
    cases e1
    rw [Addr.add_lit]
    exact hM.range j u hu
  · intro u hu
    rcases List.mem_cons.1 hu with rfl | hu
    · rfl
    rcases List.mem_cons.1 hu with rfl | hu
    · rfl
    rcases List.mem_cons.1 hu with rfl | hu
    · rfl
    cases hu
  · intro v' w' h1 h2
    refine h v' w' ?_ h2
    unfold OwnE
    rw [List.length_append, List.flatMap_append]
    simpa using h1
set_option maxRecDepth 10000 in
set_option maxHeartbeats 4000000 in
theorem laid10 (t l : List Ent) (a : Option Addr) (cap : Nat) (a2 : Option Addr) (cap2 : Nat) (w : World) (ht : Ents w a cap t) (hl : Ents w a2 cap2 l) (hT : TR t) (hR : RightL l) (hn : t.length ≤ 1000) :
    Calls Try.prog 22 #[.slice a t.length cap, .slice a2 l.length cap2] w fun e w' => ∃ a' cap', e = .returned (.slice a' (over t l).length cap') ∧ Ents w' a' cap' (over t l) ∧ Below w.heap.size w w' := by
  have HC := Lib.hid (gone10 l a2 cap2 w hl (sm_right hR))
  have HT := Lib.hid hT
  have HR := Lib.hid hR
  have HN := Lib.hid hn
  have HET := Lib.hid ht
  have HEL := Lib.hid hl
  have HPS := Lib.hid (fun c hp hs => pile_sorted (c := c) hT.1.2.1 hR.2.2.1 hR.2.1 hp hs)
  have HPL := Lib.hid (pile_len t l)
  clear ht hl hT hR hn
  go_enter Try.func22, Try.ntmps22
  go_wp2_with fail
  refine HC.out.mono ?_
  rintro e w1 ⟨P, rfl, hg, hb⟩
  have HB1 := Lib.hid hb
  have HG := Lib.hid hg
  replace HET := Lib.hid (RowN.below HET.out hb)
  replace HEL := Lib.hid (RowN.below HEL.out hb)
  clear hg hb
  go_wp2
  go_loopg [6, 15] t.length (fun g v i wx => ∃ (k : Nat), i = .int .i64 (k : Int) ∧ k + g = t.length ∧ Hid (OwnE wx w1.heap.size v (kept (t.take k) l)) ∧ Hid (Below w1.heap.size w1 wx))
  case atStart => exact ⟨0, rfl, by omega, ownE_nil _ _, Below.refl _ _⟩
  case round =>
    obtain ⟨k, rfl, hk, HO, HB⟩ := hrel
    have hw : IntKind.i64.wrap ((k : Int) + 1) = (k : Int) + 1 := IntWalk.i64_in _ (by have := HN.out; omega)
    by_cases hlt : k < t.length
    · have hlt' : (k : Int) < (t.length : Int) := by omega
      obtain ⟨b, off, rfl, hb, hc⟩ := Ents.at HET.out HB.out hlt
      have HX := Lib.hid (HT.out.1.1 _ (List.getElem_mem hlt))
      have HK := Lib.hid (show kept (t.take (k + 1)) l = if goes l t[k] = true then kept (t.take k) l else kept (t.take k) l ++ [t[k]] by rw [take_sn t k hlt, kept_snoc])
      have HLN := Lib.hid (show (kept (t.take k) l).length ≤ 100000 by
        have h1 : (kept (t.take k) l).length ≤ (t.take k).length := List.length_filter_le _ _
        have := HN.out
        rw [List.length_take] at h1
        omega)
      obtain ⟨x, hx⟩ : ∃ x, t[k] = x := ⟨_, rfl⟩
      rw [hx] at hc HX HK
      have c0 := hc.c0
      have c1 := hc.c1
      have c2 := hc.c2
      obtain ⟨W, hW⟩ : ∃ W, wr.alloc (.cells #[.string x.1, .int .i64 x.2.1, .string x.2.2] 34) = W := ⟨_, rfl⟩
      obtain ⟨M, hM⟩ : ∃ M, wr.heap.size = M := ⟨_, rfl⟩
      have hbW : Below wr.heap.size wr W := by rw [← hW]; exact (Below.refl _ _).alloc (Nat.le_refl _) _
      have hq : EnAt W M x.1 x.2.1 x.2.2 := by rw [← hW, ← hM]; exact enAt_new _ _ _ _
      have HQ := Lib.hid hq
      have q0 := hq.c0
      have q1 := hq.c1
      have q2 := hq.c2
      have HBW := Lib.hid (HB.out.trans (hbW.mono HB.out.size))
      have HOW := Lib.hid (HO.out.below hbW)
      have HCC := Lib.hid (gclo10 l w.heap.size P x W (HG.out.below HBW.out) HR.out.2.2.1 HR.out.2.1 HX.out)
      clear hc hx hb hbW hq
      go_wp2_with fail
      refine HCC.out.mono ?_
      rintro e w2 ⟨rfl, hb⟩
      have HB2 := Lib.hid (HBW.out.trans (hb.mono HBW.out.size))
      have HO2 := Lib.hid (HOW.out.below hb)
      have HQ2 := Lib.hid (HQ.out.below hb)
      clear hb q0 q1 q2
      cases hgo : goes l x with
      | true =>
        rw [hgo, if_pos rfl] at HK
        clear hgo
        go_wp2
        go_roundg (gk - 1)
        case measure => omega
        case rel => exact ⟨k + 1, by simp, by omega, by rw [HK.out]; exact HO2.out, HB2.out⟩
      | false =>
        rw [hgo, if_neg (by simp)] at HK
        clear hgo
        have q0 := HQ2.out.c0
        have q1 := HQ2.out.c1
        have q2 := HQ2.out.c2
        go_wp2_with (at_builtin; refine Stopped.go ?_)
        unfold Stopped
        refine wl_putG (by rfl) _ _ (by rfl) w1.heap.size u6 _ x (by rfl) (HO2.out.below ((Below.refl _ _).alloc (Nat.le_refl _) _)) (by have := HB2.out.size; simp; omega) w2.heap.size (by rfl) (enAt_new w2 x.1 x.2.1 x.2.2) HLN.out ?_
        intro v6 w6 ho hg
        have HB6 := Lib.hid ((HB2.out.alloc HB2.out.size (.cells #[.string x.1, .int .i64 x.2.1, .string x.2.2] 34)).grown hg (by have := HB2.out.size; simp; omega) (fun k hk => (ownE_blk HO2.out k hk).1))
        have HO6 := Lib.hid ho
        clear ho hg
        go_wp2
        go_roundg (gk - 1)
        case measure => omega
        case rel => exact ⟨k + 1, by simp, by omega, by rw [HK.out]; exact HO6.out, HB6.out⟩
    · have hlt' : ¬ (k : Int) < (t.length : Int) := by omega
      have HK := Lib.hid (show kept (t.take k) l = kept t l by rw [List.take_of_length_le (by omega)])
      rw [HK.out] at HO
      go_wp2
      clear hw hlt hlt' hk HK
      go_loopg [6, 30] l.length (fun g v i wx => ∃ (k : Nat), i = .int .i64 (k : Int) ∧ k + g = l.length ∧ Hid (OwnE wx w1.heap.size v (kept t l ++ news (l.take k))) ∧ Hid (Below w1.heap.size w1 wx))
      case atStart => exact ⟨0, rfl, by omega, by simpa [news, Hid] using HO.out, HB.out⟩
      case round =>
        obtain ⟨j, rfl, hj, HO3, HB3⟩ := hrel
        have hw : IntKind.i64.wrap ((j : Int) + 1) = (j : Int) + 1 := IntWalk.i64_in _ (by have := HR.out.1; omega)
        by_cases hlt : j < l.length
        · have hlt' : (j : Int) < (l.length : Int) := by omega
          obtain ⟨b, off, rfl, hb, hc⟩ := Ents.at HEL.out HB3.out hlt
          have HX := Lib.hid (HR.out.2.1 _ (List.getElem_mem hlt))
          have HK := Lib.hid (show news (l.take (j + 1)) = if l[j].2.1 = 3 then news (l.take j) else news (l.take j) ++ [sh l[j]] by rw [take_sn l j hlt, news_snoc])
          have HLN := Lib.hid (show (kept t l ++ news (l.take j)).length ≤ 100000 by
            have h1 : (kept t l).length ≤ t.length := List.length_filter_le _ _
            have h2 : (news (l.take j)).length ≤ (l.take j).length := by unfold news; rw [List.length_map]; exact List.length_filter_le _ _
            have := HN.out
            have := HR.out.1
            rw [List.length_take] at h2
            rw [List.length_append]
            omega)
          obtain ⟨x, hx⟩ : ∃ x, l[j] = x := ⟨_, rfl⟩
          rw [hx] at hc HX HK
          have c0 := hc.c0
          have c1 := hc.c1
          have c2 := hc.c2
          obtain ⟨W, hW⟩ : ∃ W, wr.alloc (.cells #[.string x.1, .int .i64 x.2.1, .string x.2.2] 34) = W := ⟨_, rfl⟩
          obtain ⟨M, hM⟩ : ∃ M, wr.heap.size = M := ⟨_, rfl⟩
          have hbW : Below wr.heap.size wr W := by rw [← hW]; exact (Below.refl _ _).alloc (Nat.le_refl _) _
          have hq : EnAt W M x.1 x.2.1 x.2.2 := by rw [← hW, ← hM]; exact enAt_new _ _ _ _
          have q0 := hq.c0
          have q1 := hq.c1
          have q2 := hq.c2
          have HBW := Lib.hid (HB3.out.trans (hbW.mono HB3.out.size))
          have HOW := Lib.hid (HO3.out.below hbW)
          clear hc hx hb hbW hq
          by_cases h3 : x.2.1 = 3
          · rw [if_pos h3] at HK
            have g1 : (x.2.1 == 3) = true := by rw [h3]; rfl
            have g2 : (x.2.1 != 3) = false := by rw [h3]; rfl
            clear h3
            go_wp2
            go_roundg (l.length - (j + 1))
            case measure => omega
            case rel => exact ⟨j + 1, by simp, by omega, by rw [HK.out]; exact HOW.out, HBW.out⟩
          · rw [if_neg h3] at HK
            have g1 : (x.2.1 == 3) = false := beq_eq_false_iff_ne.2 h3
            have g2 : (x.2.1 != 3) = true := by rw [bne, g1]; rfl
            have HCC := Lib.hid (shown10 x HX.out h3 W)
            obtain ⟨y, hy⟩ : ∃ y, sh x = y := ⟨_, rfl⟩
            rw [hy] at HCC HK
            clear h3 hy
            go_wp2_with fail
            refine HCC.out.mono ?_
            rintro e w2 ⟨rfl, hb⟩
            have HB2 := Lib.hid (HBW.out.trans (hb.mono HBW.out.size))
            have HO2 := Lib.hid (HOW.out.below hb)
            clear hb q0 q1 q2
            go_wp2_with (at_builtin; refine Stopped.go ?_)
            unfold Stopped
            refine wl_putG (by rfl) _ _ (by rfl) w1.heap.size u6 _ y (by rfl) (HO2.out.below ((Below.refl _ _).alloc (Nat.le_refl _) _)) (by have := HB2.out.size; simp; omega) w2.heap.size (by rfl) (enAt_new w2 y.1 y.2.1 y.2.2) HLN.out ?_
            intro v6 w6 ho hg
            have HB6 := Lib.hid ((HB2.out.alloc HB2.out.size (.cells #[.string y.1, .int .i64 y.2.1, .string y.2.2] 34)).grown hg (by have := HB2.out.size; simp; omega) (fun k hk => (ownE_blk HO2.out k hk).1))
            have HO6 := Lib.hid ho
            clear ho hg
            go_wp2
            go_roundg (l.length - (j + 1))
            case measure => omega
            case rel => exact ⟨j + 1, by simp, by omega, by rw [HK.out, ← List.append_assoc]; exact HO6.out, HB6.out⟩
        · have hlt' : ¬ (j : Int) < (l.length : Int) := by omega
          have HK := Lib.hid (show news (l.take j) = news l by rw [List.take_of_length_le (by omega)])
          rw [HK.out] at HO3
          go_wp2_with fail
          refine (sort10 w1.heap.size u6 _ _ HO3.out HB3.out.size (by have := HPL.out; have := HN.out; have := HR.out.1; omega)).mono ?_
          rintro e w3 ⟨rfl, l', a3, cap3, rfl, hp, hs, hE, hb⟩
          obtain rfl := HPS.out _ hp hs
          have HB4 := Lib.hid (HB1.out.trans ((HB3.out.trans hb).mono HB1.out.size))
          have HE4 := Lib.hid hE
          clear hp hs hE hb
          go_wp2
          go_ret
          exact ⟨a3, cap3, rfl, HE4.out, HB4.out⟩
end Go.Proofs.Ytkannambildnoaa

namespace Go.Proofs.Ytkannambildnoaa
open Go.RowKit

/-- How many entries stand ahead of a path. -/
def plc (l : List Ent) (p : List UInt8) : Nat := (l.filter fun a => lt8 (pl a) p).length
theorem plc_split {l : List Ent} (h : Asc l) (p : List UInt8) : l.take (plc l p) = l.filter (fun a => lt8 (pl a) p) ∧ l.drop (plc l p) = l.filter (fun a => !lt8 (pl a) p) := by
  induction l with
  | nil => exact ⟨rfl, rfl⟩
  | cons x r ih =>
    obtain ⟨h1, h2⟩ := List.pairwise_cons.1 h
    obtain ⟨i1, i2⟩ := ih h2
    unfold plc at i1 i2 ⊢
    cases hx : lt8 (pl x) p with
    | true =>
      rw [List.filter_cons_of_pos (by simpa using hx), List.filter_cons_of_neg (by simp [hx]), List.length_cons, List.take_succ_cons, List.drop_succ_cons, i1]
      exact ⟨rfl, i2⟩
    | false =>
      have h3 : ∀ y ∈ x :: r, lt8 (pl y) p = false := fun y hy => by
        rcases List.mem_cons.1 hy with rfl | hy
        · exact hx
        · cases h4 : lt8 (pl y) p with
          | false => rfl
          | true => have := lt8_trans (h1 y hy) h4; rw [hx] at this; cases this
      rw [List.filter_eq_nil_iff.2 fun y hy => by rw [h3 y hy]; simp, List.filter_eq_self.2 fun y hy => by rw [h3 y hy]; rfl]
      exact ⟨rfl, rfl⟩
theorem plc_le (l : List Ent) (p : List UInt8) : plc l p ≤ l.length := List.length_filter_le _ _
theorem plc_at {l : List Ent} (h : Asc l) (p : List UInt8) {i : Nat} (hi : i < l.length) : lt8 (pl l[i]) p = decide (i < plc l p) := by
  obtain ⟨h1, h2⟩ := plc_split h p
  by_cases hk : i < plc l p
  · rw [decide_eq_true hk]
    have : l[i] ∈ l.take (plc l p) := by
      rw [List.mem_take_iff_getElem]
      exact ⟨i, by omega, rfl⟩
    rw [h1] at this
    simpa using (List.mem_filter.1 this).2
  · rw [decide_eq_false hk]
    have : l[i] ∈ l.drop (plc l p) := by
      rw [List.mem_drop_iff_getElem]
      refine ⟨i - plc l p, by omega, ?_⟩
      congr 1
      omega
    rw [h2] at this
    simpa using (List.mem_filter.1 this).2
/-- What stands there. -/
theorem plc_fnd {l : List Ent} (h : Asc l) (p : List UInt8) : fnd l p = (l[plc l p]?).bind fun e => if pl e = p then some e else none := by
  obtain ⟨h1, h2⟩ := plc_split h p
  have hA : ∀ e ∈ l.take (plc l p), pl e ≠ p := fun e he => by
    rw [h1] at he
    exact lt8_ne (by simpa using (List.mem_filter.1 he).2)
  have hf : fnd l p = fnd (l.drop (plc l p)) p := by
    conv => lhs; rw [← List.take_append_drop (plc l p) l]
    unfold fnd
    rw [List.find?_append, List.find?_eq_none.2 fun e he => by simpa using hA e he]
    rfl
  have hd : Asc (l.drop (plc l p)) := List.Pairwise.sublist (List.drop_sublist _ _) h
  have hg : l[plc l p]? = (l.drop (plc l p))[0]? := by simp
  rw [hf, hg]
  have hB : ∀ e ∈ l.drop (plc l p), lt8 (pl e) p = false := fun e he => by
    rw [h2] at he
    simpa using (List.mem_filter.1 he).2
  cases hD : l.drop (plc l p) with
  | nil => rfl
  | cons x r =>
    rw [hD] at hd hB
    show fnd (x :: r) p = if pl x = p then some x else none
    split
    · rename_i hp
      unfold fnd
      rw [List.find?_cons_of_pos (by simpa using hp)]
    · rename_i hp
      rw [fnd_none]
      intro y hy
      rcases List.mem_cons.1 hy with rfl | hy
      · exact hp
      · intro e0
        have h3 := (List.pairwise_cons.1 hd).1 y hy
        rw [e0, hB x List.mem_cons_self] at h3
        cases h3
theorem plc_some {l : List Ent} (h : Asc l) {p : List UInt8} {e : Ent} (he : fnd l p = some e) : ∃ hk : plc l p < l.length, l[plc l p] = e ∧ pl e = p := by
  rw [plc_fnd h p] at he
  cases hg : l[plc l p]? with
  | none => rw [hg] at he; cases he
  | some x =>
    rw [hg, Option.bind_some] at he
    obtain ⟨hk, hx⟩ := List.getElem?_eq_some_iff.1 hg
    split at he
    · rename_i hp
      cases he
      exact ⟨hk, hx, hp⟩
    · cases he
theorem gt_drop {l : List Ent} (h : Asc l) (p : List UInt8) : l.filter (fun a => lt8 p (pl a)) = (l.drop (plc l p)).filter (fun a => lt8 p (pl a)) := by
  obtain ⟨h1, h2⟩ := plc_split h p
  conv => lhs; rw [← List.take_append_drop (plc l p) l]
  rw [List.filter_append, List.filter_eq_nil_iff.2, List.nil_append]
  intro e he
  rw [h1] at he
  have : lt8 (pl e) p = true := by simpa using (List.mem_filter.1 he).2
  rw [lt8_asymm this]
  simp
theorem wth_new {l : List Ent} (h : Asc l) {e : Ent} (hn : fnd l (pl e) = none) : wth l e = l.take (plc l (pl e)) ++ ([e] ++ l.drop (plc l (pl e))) := by
  obtain ⟨h1, h2⟩ := plc_split h (pl e)
  have h5 : (l.drop (plc l (pl e))).filter (fun a => lt8 (pl e) (pl a)) = l.drop (plc l (pl e)) := List.filter_eq_self.2 fun a ha => by
    have h3 : a ∈ l := List.mem_of_mem_drop ha
    rw [h2] at ha
    have h4 : lt8 (pl a) (pl e) = false := by simpa using (List.mem_filter.1 ha).2
    rcases lt8_tri (pl a) (pl e) with h | h | h
    · exact absurd h (fnd_none.1 hn a h3)
    · rw [h4] at h; cases h
    · exact h
  unfold wth
  rw [gt_drop h, h1, h5]
  rfl
theorem drop_plc {l : List Ent} (h : Asc l) {p : List UInt8} {x : Ent} (hn : fnd l p = some x) : l.drop (plc l p) = x :: l.drop (plc l p + 1) ∧ pl x = p ∧ ∀ y ∈ l.drop (plc l p + 1), lt8 p (pl y) = true := by
  obtain ⟨hk, hx, hp⟩ := plc_some h hn
  have hd : Asc (l.drop (plc l p)) := List.Pairwise.sublist (List.drop_sublist _ _) h
  have he := List.drop_eq_getElem_cons hk
  rw [hx] at he
  refine ⟨he, hp, fun y hy => ?_⟩
  unfold Asc at hd
  rw [he] at hd
  rw [← hp]
  exact (List.pairwise_cons.1 hd).1 y hy
theorem wth_old {l : List Ent} (h : Asc l) {e x : Ent} (hn : fnd l (pl e) = some x) : wth l e = l.take (plc l (pl e)) ++ ([e] ++ l.drop (plc l (pl e) + 1)) := by
  obtain ⟨h1, _⟩ := plc_split h (pl e)
  obtain ⟨h3, h4, h5⟩ := drop_plc h hn
  unfold wth
  rw [gt_drop h, h1, h3, List.filter_cons_of_neg (by rw [h4, lt8_irr]; simp), List.filter_eq_self.2 h5]
  rfl
theorem wout_old {l : List Ent} (h : Asc l) {p : List UInt8} {x : Ent} (hn : fnd l p = some x) : wout l p = l.take (plc l p) ++ l.drop (plc l p + 1) := by
  obtain ⟨h1, _⟩ := plc_split h p
  obtain ⟨h3, h4, h5⟩ := drop_plc h hn
  unfold wout
  conv => lhs; rw [← List.take_append_drop (plc l p) l]
  rw [List.filter_append, h3, List.filter_cons_of_neg (by simp [h4]), List.filter_eq_self.2, List.filter_eq_self.2]
  · intro a ha
    have := lt8_ne (h5 a ha)
    simpa using fun e0 => this e0.symm
  · intro a ha
    rw [h1] at ha
    have : lt8 (pl a) p = true := by simpa using (List.mem_filter.1 ha).2
    simpa using lt8_ne this
theorem Ents.take {w : World} {a : Option Addr} {cap : Nat} {l : List Ent} (h : Ents w a cap l) (n : Nat) : Ents w a cap (l.take n) := by
  obtain ⟨h1, h2⟩ := h
  refine ⟨by rw [List.length_take]; omega, ?_⟩
  rcases h2 with rfl | ⟨b, off, rfl, hlt, hc⟩
  · exact .inl (by simp)
  · refine .inr ⟨b, off, rfl, hlt, fun j x hx => hc j x ?_⟩
    rw [List.getElem?_take] at hx
    split at hx
    · exact hx
    · cases hx
/-- A list without its first n entries. -/
theorem Ents.drop {w : World} {b off cap : Nat} {l : List Ent} (h : Ents w (some ⟨b, off, none⟩) cap l) (n : Nat) (hn : n ≤ l.length) : Ents w (some ⟨b, off + n * 3, none⟩) (cap - n) (l.drop n) := by
  obtain ⟨h1, h2⟩ := h
  refine ⟨by rw [List.length_drop]; omega, ?_⟩
  rcases h2 with rfl | ⟨b', off', e0, hlt, hc⟩
  · exact .inl (by simp)
  · cases e0
    refine .inr ⟨b, off + n * 3, rfl, hlt, fun j x hx => ?_⟩
    rw [List.getElem?_drop] at hx
    have := hc (n + j) x hx
    rwa [show off + (n + j) * 3 = off + n * 3 + j * 3 by omega] at this
end Go.Proofs.Ytkannambildnoaa

namespace Go.Proofs.Ytkannambildnoaa
open Go.RowKit

theorem geq_str (t : TypeId) (a b : ByteArray) : binOp .geq t (.string a) (.string b) = pure (.bool !(Op.bytesLess a.toList b.toList)) := by simp [binOp, Op.stringOp]
attribute [local go_sem] geq_str
set_option maxRecDepth 10000 in
set_option maxHeartbeats 1000000 in
theorem clo9 (l : List Ent) (a : Option Addr) (cap : Nat) (p : ByteArray) (ba bp i : Nat) (w : World) (hi : i < l.length) (ca : w.cell? ⟨ba, 0, none⟩ = some (.slice a l.length cap)) (cp : w.cell? ⟨bp, 0, none⟩ = some (.string p)) (h : Ents w a cap l) :
    Calls Try.prog 53 (#[.int .i64 (i : Int)] ++ #[.pointer (some ⟨ba, 0, none⟩), .pointer (some ⟨bp, 0, none⟩)]) w fun e w' => e = .returned (.bool (!lt8 (pl l[i]) p.data.toList)) ∧ Below w.heap.size w w' := by
  obtain ⟨b, off, rfl, hb, hc⟩ := Ents.at h (Below.refl _ _) hi
  obtain ⟨x, hx⟩ : ∃ x, l[i] = x := ⟨_, rfl⟩
  rw [hx] at hc ⊢
  have c0 := hc.c0
  have hi' : (i : Int) < (l.length : Int) := by omega
  clear hc hx hb h
  go_enter Try.func53, Try.ntmps53
  go_wp2
  go_quiet (fail)
  go_wp2
  go_ret
  exact ⟨by rw [Lib.toList_data, Lib.toList_data]; rfl, below_drewX (Below.refl _ _) _⟩
set_option maxRecDepth 10000 in
set_option maxHeartbeats 2000000 in
theorem search9 (cb : Array Value) (n K : Nat) (w : World) (hn : n ≤ 100000) (hK : K ≤ n)
    (hf : ∀ w', Below w.heap.size w w' → ∀ i : Nat, i < n → Calls Try.prog 53 (#[.int .i64 (i : Int)] ++ cb) w' fun e w'' => e = .returned (.bool (decide (K ≤ i))) ∧ Below w'.heap.size w' w'') :
    Calls Try.prog 52 #[.int .i64 (n : Int), .func (.func 53) #[] cb] w fun e w' => e = .returned (.int .i64 (K : Int)) ∧ Below w.heap.size w w' := by
  have HF := Lib.hid hf
  clear hf
  go_enter Try.func52, Try.ntmps52
  go_wp2
  go_loopg [5, 6] n (fun g s5 s6 wr => ∃ (lo hi : Nat), s5 = .int .i64 (lo : Int) ∧ s6 = .int .i64 (hi : Int) ∧ lo ≤ hi ∧ hi ≤ n ∧ hi - lo ≤ g ∧ Hid (lo ≤ K ∧ K ≤ hi) ∧ Hid (Below w.heap.size w wr))
  case atStart => exact ⟨0, n, rfl, rfl, Nat.zero_le _, Nat.le_refl _, by omega, ⟨by omega, hK⟩, Below.refl _ _⟩
  case round =>
    obtain ⟨lo, hi, rfl, rfl, hlh, hin, hg, HI, HB⟩ := hrel
    by_cases hlt : lo < hi
    · have hc := HF.out wr HB.out ((lo + hi) / 2) (by omega)
      rw [show (((lo + hi) / 2 : Nat) : Int) = ((lo : Int) + (hi : Int)) / 2 by omega] at hc
      by_cases hp : K ≤ (lo + hi) / 2
      · rw [decide_eq_true hp] at hc
        have HP := Lib.hid hp
        have HC := Lib.hid hc
        clear hp hc
        go_wp2_with fail
        refine (HC.out).mono ?_
        rintro e w1 ⟨rfl, hb⟩
        have HB1 := Lib.hid (HB.out.trans (hb.mono HB.out.size))
        clear hb
        go_wp2
        go_roundg ((lo + hi) / 2 - lo)
        case measure => omega
        case rel => exact ⟨lo, (lo + hi) / 2, rfl, by rw [show ((lo : Int) + (hi : Int)) / 2 = (((lo + hi) / 2 : Nat) : Int) by omega], by omega, by omega, Nat.le_refl _, ⟨HI.out.1, HP.out⟩, HB1.out⟩
      · rw [decide_eq_false hp] at hc
        have HP := Lib.hid hp
        have HC := Lib.hid hc
        clear hp hc
        go_wp2_with fail
        refine (HC.out).mono ?_
        rintro e w1 ⟨rfl, hb⟩
        have HB1 := Lib.hid (HB.out.trans (hb.mono HB.out.size))
        clear hb
        go_wp2
        go_roundg (hi - ((lo + hi) / 2 + 1))
        case measure => omega
        case rel => exact ⟨(lo + hi) / 2 + 1, hi, by rw [show ((lo : Int) + (hi : Int)) / 2 + 1 = (((lo + hi) / 2 + 1 : Nat) : Int) by omega], rfl, by omega, hin, Nat.le_refl _, ⟨by have := HP.out; omega, HI.out.2⟩, HB1.out⟩
    · have HV := Lib.hid (show lo = K by have := HI.out; omega)
      go_wp2
      go_ret
      exact ⟨by rw [HV.out]; rfl, HB.out⟩
set_option maxRecDepth 10000 in
set_option maxHeartbeats 2000000 in
theorem place9 (l : List Ent) (a : Option Addr) (cap : Nat) (p : ByteArray) (w : World) (h : Ents w a cap l) (hA : Asc l) (hl : l.length ≤ 1000) :
    Calls Try.prog 41 #[.slice a l.length cap, .string p] w fun e w' => e = .returned (.tuple #[.int .i64 (plc l p.data.toList : Nat), .bool (fnd l p.data.toList).isSome]) ∧ Below w.heap.size w w' := by
  obtain ⟨W, hW⟩ : ∃ W, w.alloc (.cells #[.slice a l.length cap] 23) = W := ⟨_, rfl⟩
  obtain ⟨N, hN⟩ : ∃ N, w.heap.size = N := ⟨_, rfl⟩
  obtain ⟨V, hV⟩ : ∃ V, W.alloc (.cells #[.string p] 9) = V := ⟨_, rfl⟩
  obtain ⟨M, hM⟩ : ∃ M, W.heap.size = M := ⟨_, rfl⟩
  have hb0 : Below w.heap.size w W := by rw [← hW]; exact (Below.refl _ _).alloc (Nat.le_refl _) _
  have hb1 : Below W.heap.size W V := by rw [← hV]; exact (Below.refl _ _).alloc (Nat.le_refl _) _
  have ca0 : W.cell? ⟨N, 0, none⟩ = some (.slice a l.length cap) := by rw [← hW, ← hN]; simp
  have hlt0 : N < W.heap.size := by rw [← hW, ← hN]; simp
  have ca : V.cell? ⟨N, 0, none⟩ = some (.slice a l.length cap) := (hb1.cell (p := ⟨N, 0, none⟩) hlt0).trans ca0
  have cp : V.cell? ⟨M, 0, none⟩ = some (.string p) := by rw [← hV, ← hM]; simp
  have hbV : Below w.heap.size w V := hb0.trans (hb1.mono hb0.size)
  have HE := Lib.hid (RowN.below h hbV)
  have HBV := Lib.hid hbV
  have HS := Lib.hid (show N < V.heap.size ∧ M < V.heap.size by
    have := hb1.size
    refine ⟨by omega, ?_⟩
    rw [← hV, ← hM]; simp)
  obtain ⟨K, hK⟩ : ∃ K, plc l p.data.toList = K := ⟨_, rfl⟩
  have HK := Lib.hid (show K ≤ l.length by rw [← hK]; exact plc_le _ _)
  have HAT := Lib.hid (fun i (hi : i < l.length) => plc_at hA p.data.toList hi)
  have HFN := Lib.hid (plc_fnd hA p.data.toList)
  rw [hK] at HAT HFN ⊢
  have HC := Lib.hid (search9 #[.pointer (some ⟨N, 0, none⟩), .pointer (some ⟨M, 0, none⟩)] l.length K V (by omega) HK.out fun w' hb i hi => by
    refine (clo9 l a cap p N M i w' hi ((hb.cell (p := ⟨N, 0, none⟩) HS.out.1).trans ca) ((hb.cell (p := ⟨M, 0, none⟩) HS.out.2).trans cp) (RowN.below HE.out hb)).mono ?_
    rintro e w'' ⟨rfl, hb2⟩
    rw [HAT.out i hi]
    refine ⟨?_, hb2⟩
    congr 2
    by_cases h : i < K
    · rw [decide_eq_true h, decide_eq_false (show ¬ K ≤ i by omega)]; rfl
    · rw [decide_eq_false h, decide_eq_true (show K ≤ i by omega)]; rfl)
  have HCA := Lib.hid ca
  have HCP := Lib.hid cp
  have hmf : ∀ (fn : Fn) (first cap : Array Value) (w : World), (Instr.makeFunc fn first cap).run Try.prog w = .ok (.func fn first cap) w := fun _ _ _ _ => rfl
  clear h hA hb0 hb1 ca0 hlt0 cp hbV hK HAT
  go_enter Try.func41, Try.ntmps41
  go_wp2_with fail
  refine (HC.out).mono ?_
  rintro e w1 ⟨rfl, hb⟩
  have HB1 := Lib.hid (HBV.out.trans (hb.mono HBV.out.size))
  have HE1 := Lib.hid (RowN.below HE.out hb)
  have ca := (hb.cell (p := ⟨N, 0, none⟩) HS.out.1).trans HCA.out
  have cp := (hb.cell (p := ⟨M, 0, none⟩) HS.out.2).trans HCP.out
  clear hb
  by_cases hlt : K < l.length
  · have g1 : decide ((K : Int) < (l.length : Int)) = true := decide_eq_true (by omega)
    have hlt' : (K : Int) < (l.length : Int) := by omega
    obtain ⟨b, off, rfl, _, hc⟩ := Ents.at HE1.out (Below.refl _ _) hlt
    have hf := HFN.out
    rw [List.getElem?_eq_getElem hlt, Option.bind_some] at hf
    obtain ⟨x, hx⟩ : ∃ x, l[K] = x := ⟨_, rfl⟩
    rw [hx] at hc hf
    have c0 := hc.c0
    clear hc hx
    by_cases hp : pl x = p.data.toList
    · have gp : (x.1.toList == p.toList) = true := by rw [Lib.toList_data, Lib.toList_data, beq_iff_eq]; exact hp
      rw [if_pos hp] at hf
      have HV := Lib.hid (show (fnd l p.data.toList).isSome = true by rw [hf]; rfl)
      clear hp hf HFN
      go_wp2
      go_quiet (fail)
      go_wp2
      go_ret2
      exact ⟨by rw [HV.out]; rfl, below_drewX HB1.out _⟩
    · have gp : (x.1.toList == p.toList) = false := by rw [Lib.toList_data, Lib.toList_data, beq_eq_false_iff_ne]; exact hp
      rw [if_neg hp] at hf
      have HV := Lib.hid (show (fnd l p.data.toList).isSome = false by rw [hf]; rfl)
      clear hp hf HFN
      go_wp2
      go_quiet (fail)
      go_wp2
      go_ret2
      exact ⟨by rw [HV.out]; rfl, below_drewX HB1.out _⟩
  · have g1 : decide ((K : Int) < (l.length : Int)) = false := decide_eq_false (by omega)
    have hlt' : ¬ (K : Int) < (l.length : Int) := by omega
    have hf := HFN.out
    rw [List.getElem?_eq_none (by omega), Option.bind_none] at hf
    have HV := Lib.hid (show (fnd l p.data.toList).isSome = false by rw [hf]; rfl)
    clear hf HFN
    go_wp2
    go_quiet (fail)
    go_wp2
    go_ret2
    exact ⟨by rw [HV.out]; rfl, below_drewX HB1.out _⟩
end Go.Proofs.Ytkannambildnoaa

namespace Go.Proofs.Ytkannambildnoaa
open Go.RowKit

theorem par9_root {p : List UInt8} (h : isP p) (h1 : p ≠ [47]) : par9 p = [47] ↔ dp p = 1 := by
  obtain ⟨ms, x, a1, _, a3, _, a5⟩ := par9_parts h h1
  rw [a5, dp_pos h, a3, ← pcs_nil (isP_pth a1), pcs_pth a1.2, List.length_append, ← List.length_eq_zero_iff]
  simp only [List.length_singleton]
  omega
theorem inD_fnd {l : List Ent} (hA : Asc l) {e : Ent} (hne : par9 (pl e) ≠ [47]) : decide (inD l e) = (match fnd l (par9 (pl e)) with
    | some d => hd d
    | none => false) := by
  cases hf : fnd l (par9 (pl e)) with
  | none =>
    refine decide_eq_false ?_
    rintro (h | ⟨d, h1, h2, _⟩)
    · exact hne h
    · exact fnd_none.1 hf d h1 h2
  | some d =>
    obtain ⟨h1, h2⟩ := (fnd_some hA).1 hf
    show _ = hd d
    cases hd' : hd d with
    | true => exact decide_eq_true (.inr ⟨d, h1, h2, hd'⟩)
    | false =>
      refine decide_eq_false ?_
      rintro (h | ⟨x, h3, h4, h5⟩)
      · exact hne h
      · obtain rfl := asc_inj hA h1 h3 (h2.trans h4.symm)
        rw [hd'] at h5
        cases h5
set_option maxRecDepth 10000 in
set_option maxHeartbeats 2000000 in
theorem housed9 (l : List Ent) (a : Option Addr) (cap : Nat) (e : Ent) (w : World) (h : Ents w a cap l) (hA : Asc l) (hl : l.length ≤ 1000) (he : rE e = true) :
    Calls Try.prog 28 #[.slice a l.length cap, enV e] w fun r w' => r = .returned (.bool (decide (inD l e))) ∧ Below w.heap.size w w' := by
  obtain ⟨hP, hne⟩ := rE_isP he
  have h54 := isP_len hP
  rw [← Lib.size_eq] at h54
  obtain ⟨W, hW⟩ : ∃ W, w.alloc (.cells #[.string e.1, .int .i64 e.2.1, .string e.2.2] 34) = W := ⟨_, rfl⟩
  obtain ⟨N, hN⟩ : ∃ N, w.heap.size = N := ⟨_, rfl⟩
  have hb0 : Below w.heap.size w W := by rw [← hW]; exact (Below.refl _ _).alloc (Nat.le_refl _) _
  have HB0 := Lib.hid hb0
  have r0 : EnAt W N e.1 e.2.1 e.2.2 := by rw [← hW, ← hN]; exact enAt_new _ _ _ _
  have c0 := r0.c0
  have HR0 := Lib.hid r0
  have HE := Lib.hid (RowN.below h hb0)
  have HA := Lib.hid hA
  have HL := Lib.hid hl
  have HZ := Lib.hid (show e.1.size ≤ 9223372036854775807 by omega)
  have HP := Lib.hid hP
  have HNE := Lib.hid hne
  have HPR := Lib.hid (par9_root hP hne)
  obtain ⟨ms, y, m1, m2, m3, m4, m5⟩ := par9_parts hP hne
  have HPG := Lib.hid (parent_good e.1 ms y hP m2 m4 hne)
  have HM5 := Lib.hid m5
  obtain ⟨n, hn⟩ : ∃ n, dp (pl e) = n := ⟨_, rfl⟩
  rw [hn] at HPR
  have HN := Lib.hid hn
  clear h hA hl he hP hne h54 hb0 r0 m1 m2 m3 m4 m5 hn
  by_cases h1 : n = 1
  · have g1 : (n == 1) = true := by rw [h1]; rfl
    have HV := Lib.hid (show decide (inD l e) = true from decide_eq_true (.inl (HPR.out.2 h1)))
    clear h1
    go_enter Try.func28, Try.ntmps28
    go_wp2_with fail
    refine (deep_any e.1 HZ.out _).mono ?_
    rintro r w1 ⟨rfl, hb⟩
    rw [HN.out]
    have HB1 := Lib.hid (HB0.out.trans (hb.mono HB0.out.size))
    clear hb
    go_wp2
    go_ret
    exact ⟨by rw [HV.out]; rfl, HB1.out⟩
  · have g1 : (n == 1) = false := beq_eq_false_iff_ne.2 h1
    have HV := Lib.hid (inD_fnd (e := e) HA.out (fun h => h1 (HPR.out.1 h)))
    clear h1
    go_enter Try.func28, Try.ntmps28
    go_wp2_with fail
    refine (deep_any e.1 HZ.out _).mono ?_
    rintro r w1 ⟨rfl, hb⟩
    rw [HN.out]
    have HB1 := Lib.hid (HB0.out.trans (hb.mono HB0.out.size))
    have HE1 := Lib.hid (RowN.below HE.out hb)
    have HR1 := Lib.hid (HR0.out.below hb)
    clear hb c0
    have c0 := HR1.out.c0
    go_wp2_with fail
    refine (HPG.out _).mono ?_
    rintro r w2 ⟨d, z, rfl, hd1, _, hb⟩
    have HB2 := Lib.hid (HB1.out.trans (hb.mono HB1.out.size))
    have HE2 := Lib.hid (RowN.below HE1.out hb)
    have HD := Lib.hid (hd1.trans HM5.out.symm)
    clear hb hd1 c0
    go_wp2_with fail
    refine (place9 l a cap d _ HE2.out HA.out HL.out).mono ?_
    rintro r w3 ⟨rfl, hb⟩
    rw [HD.out]
    have HB3 := Lib.hid (HB2.out.trans (hb.mono HB2.out.size))
    have HE3 := Lib.hid (RowN.below HE2.out hb)
    clear hb
    cases hf : fnd l (par9 (pl e)) with
    | none =>
      rw [hf] at HV
      rw [show (none : Option Ent).isSome = false from rfl]
      clear hf
      go_wp2
      go_ret
      exact ⟨by rw [HV.out]; rfl, HB3.out⟩
    | some x =>
      rw [hf] at HV
      rw [show (some x).isSome = true from rfl]
      obtain ⟨hk, hx, _⟩ := plc_some HA.out hf
      obtain ⟨K, hK⟩ : ∃ K, plc l (par9 (pl e)) = K := ⟨_, rfl⟩
      simp only [hK] at hk hx
      rw [hK]
      obtain ⟨b, off, rfl, _, hc⟩ := Ents.at HE3.out (Below.refl _ _) hk
      rw [hx] at hc
      have c0 := hc.c0
      have c1 := hc.c1
      have c2 := hc.c2
      have hk' : (K : Int) < (l.length : Int) := by omega
      clear hf hK hx hc
      go_wp2_with fail
      refine (holds8 x.1 x.2.2 x.2.1 _).mono ?_
      rintro r w4 ⟨rfl, hb⟩
      have HB4 := Lib.hid (HB3.out.trans (hb.mono HB3.out.size))
      have HV2 := Lib.hid (show decide (inD l e) = (x.2.1 == 2 || x.2.1 == 4) from HV.out)
      obtain ⟨q, hq⟩ : ∃ q, (x.2.1 == 2 || x.2.1 == 4) = q := ⟨_, rfl⟩
      rw [hq] at HV2 ⊢
      clear hb hq HV
      go_wp2
      go_ret
      exact ⟨by rw [HV2.out]; rfl, HB4.out⟩
end Go.Proofs.Ytkannambildnoaa

namespace Go.Proofs.Ytkannambildnoaa
open Go.RowKit

theorem rl_no {l : List Ent} {k : Nat} (h : ¬ RL (l.take (k + 1))) : decide (RightL l) = false := decide_eq_false fun hr => h (rl_take hr.2 _)
theorem last_take9 {l : List Ent} {k j : Nat} (hk : k < l.length) (hj : k = j + 1) : (l.take k).getLast? = some (l[j]'(by omega)) := by
  subst hj
  rw [take_get l j (by omega), List.getLast?_concat]
attribute [local go_sem ↓] old_ldi old_lds old_lde3
attribute [local go_sem] oldC_forall isC1_ptr isS1_ptr c1V_ptr isE3_ptr e3V_ptr
set_option maxRecDepth 10000 in
set_option maxHeartbeats 4000000 in
theorem right9 (l : List Ent) (a : Option Addr) (cap : Nat) (w : World) (h : Ents w a cap l) (hs : Sm l) : Calls Try.prog 15 #[.slice a l.length cap] w fun e w' => e = .returned (.bool (decide (RightL l))) ∧ Below w.heap.size w w' := by
  obtain ⟨R, hR⟩ : ∃ R, decide (RightL l) = R := ⟨_, rfl⟩
  rw [hR]
  have HR := Lib.hid hR
  clear hR
  by_cases h64 : l.length ≤ 64
  · have g64 : ¬ (64 : Int) < (l.length : Int) := by omega
    have HE := Lib.hid h
    have HS := Lib.hid hs
    have HL := Lib.hid h64
    have HCAP := Lib.hid h.1
    clear h hs
    go_enter Try.func15, Try.ntmps15
    go_wp2
    go_loopg [10] l.length (fun g i wx => ∃ k : Nat, i = .int .i64 (k : Int) ∧ k + g = l.length ∧ Hid (RL (l.take k)) ∧ Hid (Below w.heap.size w wx))
    case atStart => exact ⟨0, rfl, by omega, by simpa [Hid] using rl_nil, Below.refl _ _⟩
    case round =>
      obtain ⟨k, rfl, hk, HI, HB⟩ := hrel
      have hw : IntKind.i64.wrap ((k : Int) + 1) = (k : Int) + 1 := IntWalk.i64_in _ (by omega)
      by_cases hlt : k < l.length
      · have hlt' : (k : Int) < (l.length : Int) := by omega
        have hkc : (k : Int) ≤ (cap : Int) := by have := HCAP.out; omega
        obtain ⟨b, off, rfl, hb, hc⟩ := HE.out.at HB.out hlt
        have HEr := Lib.hid (RowN.below HE.out HB.out)
        have HT := Lib.hid (take_get l k hlt)
        have HZ := Lib.hid (HS.out.2 _ (List.getElem_mem hlt))
        have HLT := Lib.hid (fun j (hj : k = j + 1) => last_take9 hlt hj)
        have HNO := Lib.hid (fun h => rl_no (l := l) (k := k) h)
        obtain ⟨x, hx⟩ : ∃ x, l[k] = x := ⟨_, rfl⟩
        rw [hx] at hc HT HZ
        have HXK := Lib.hid hx
        have c0 := hc.c0
        have c1 := hc.c1
        have c2 := hc.c2
        obtain ⟨W, hW⟩ : ∃ W, wr.alloc (.cells #[.string x.1, .int .i64 x.2.1, .string x.2.2] 34) = W := ⟨_, rfl⟩
        obtain ⟨M, hM⟩ : ∃ M, wr.heap.size = M := ⟨_, rfl⟩
        have hbW : Below wr.heap.size wr W := by rw [← hW]; exact (Below.refl _ _).alloc (Nat.le_refl _) _
        have HBW := Lib.hid (HB.out.trans (hbW.mono HB.out.size))
        have HQ := Lib.hid (show EnAt W M x.1 x.2.1 x.2.2 by rw [← hW, ← hM]; exact enAt_new _ _ _ _)
        have HEW := Lib.hid (RowN.below HEr.out hbW)
        have q0 := HQ.out.c0
        have q1 := HQ.out.c1
        have q2 := HQ.out.c2
        have H1 : Hid (∀ w0 w', OldC w0 w' → Calls Try.prog 23 #[entV x.1 x.2.1 x.2.2] w' fun r w'' => r = .returned (.bool (rE x)) ∧ OldC w0 w'') := fun w0 w' hw' => by
          refine (right8 x.1 x.2.1 x.2.2 (by have := HZ.out; unfold maxLen; omega) w').mono ?_
          rintro r w'' ⟨rfl, hb⟩
          exact ⟨rfl, hw'.then hb⟩
        have H2 : Hid (∀ y : Ent, ∀ w0 w', OldC w0 w' → Calls Try.prog 25 #[entV y.1 y.2.1 y.2.2, entV x.1 x.2.1 x.2.2] w' fun r w'' => r = .returned (.bool (lt8 (pl y) (pl x))) ∧ OldC w0 w'') := fun y w0 w' hw' => by
          refine (less8 y.1 x.1 y.2.2 x.2.2 y.2.1 x.2.1 w').mono ?_
          rintro r w'' ⟨rfl, hb⟩
          exact ⟨rfl, hw'.then hb⟩
        clear hc hx hb hbW
        cases hv : rE x with
        | false =>
          rw [hv] at H1
          have HX := Lib.hid (show R = false by
            rw [← HR.out]
            refine HNO.out fun h => ?_
            rw [HT.out, rl_snoc, hv] at h
            cases h.2.1)
          clear hv
          go_wp2_with fail
          refine wp_region_old (by kernel_rfl) (by kernel_rfl) ?_
          repeat (go_big_quiet_step ((first | (intro hw; with_reducible exact H1.out _ _ hw))))
          refine wpQuiet_nil ?_
          intro w3 hw3
          have HB3 := Lib.hid (show Below w.heap.size w w3 from HBW.out.trans (Below.mono hw3 HBW.out.size))
          clear hw3
          go_wp2
          go_ret
          exact ⟨by rw [HX.out]; rfl, HB3.out⟩
        | true =>
          rw [hv] at H1
          have HVX := Lib.hid hv
          clear hv
          have called : (decide (0 < k) = false ∧ ∀ y, (l.take k).getLast? = some y → lt8 (pl y) (pl x) = true) ∨ (decide (0 < k) = true ∧ ∃ (j : Nat) (y : Ent), (k : Int) - 1 = (j : Int) ∧ (l.take k).getLast? = some y ∧ EnCells W b (off + j * 3) y ∧ (j : Int) < (l.length : Int)) := by
            by_cases h0 : 0 < k
            · refine .inr ⟨decide_eq_true h0, k - 1, l[k - 1]'(by omega), by omega, HLT.out (k - 1) (by omega), ?_, by omega⟩
              obtain ⟨b', off', e9, _, h9⟩ := Ents.at HEW.out (Below.refl _ _) (show k - 1 < l.length by omega)
              cases e9
              exact h9
            · refine .inl ⟨decide_eq_false h0, fun y hy => ?_⟩
              obtain rfl : k = 0 := by omega
              simp at hy
          rcases called with ⟨g0, hlast⟩ | ⟨g0, j, y, hj, hy, hcy, hjl⟩
          · have HLA := Lib.hid hlast
            clear hlast
            go_wp2_with fail
            refine wp_region_old (by kernel_rfl) (by kernel_rfl) ?_
            repeat (go_big_quiet_step ((first | (intro hw; with_reducible exact H1.out _ _ hw))))
            refine wpQuiet_nil ?_
            intro w3 hw3
            have HB3 := Lib.hid (show Below w.heap.size w w3 from HBW.out.trans (Below.mono hw3 HBW.out.size))
            have HQ3 := Lib.hid (HQ.out.below hw3)
            have HE3 := Lib.hid (RowN.below HEW.out hw3)
            clear hw3 q0 q1 q2 c0 c1 c2
            have q0 := HQ3.out.c0
            have q1 := HQ3.out.c1
            have q2 := HQ3.out.c2
            have H3 : Hid (∀ w', OldC w3 w' → Calls Try.prog 28 #[.slice (some ⟨b, off, none⟩) k cap, entV x.1 x.2.1 x.2.2] w' fun r w'' => r = .returned (.bool (decide (inD (l.take k) x))) ∧ OldC w3 w'') := fun w' hw' => by
              have hc := housed9 (l.take k) (some ⟨b, off, none⟩) cap x w' (Ents.take (RowN.below HE3.out hw') k) HI.out.2.1 (by rw [List.length_take]; omega) HVX.out
              rw [List.length_take, Nat.min_eq_left (by omega)] at hc
              refine hc.mono ?_
              rintro r w'' ⟨rfl, hb⟩
              exact ⟨rfl, hw'.then hb⟩
            by_cases hin : inD (l.take k) x
            · rw [decide_eq_true hin] at H3
              have HN := Lib.hid (show RL (l.take (k + 1)) by rw [HT.out, rl_snoc]; exact ⟨HI.out, HVX.out, HLA.out, hin⟩)
              clear hin
              go_wp2_with fail
              refine wp_region_old (by kernel_rfl) (by kernel_rfl) ?_
              repeat (go_big_quiet_step ((first | (intro hw; with_reducible exact H3.out _ hw))))
              refine wpQuiet_nil ?_
              intro w4 hw4
              have HB4 := Lib.hid (show Below w.heap.size w w4 from HB3.out.trans (Below.mono hw4 HB3.out.size))
              clear hw4
              go_wp2
              go_roundg (gk - 1)
              case measure => omega
              case rel => exact ⟨k + 1, by simp, by omega, HN.out, HB4.out⟩
            · rw [decide_eq_false hin] at H3
              have HX := Lib.hid (show R = false by
                rw [← HR.out]
                refine HNO.out fun h => ?_
                rw [HT.out, rl_snoc] at h
                exact hin h.2.2.2)
              clear hin
              go_wp2_with fail
              refine wp_region_old (by kernel_rfl) (by kernel_rfl) ?_
              repeat (go_big_quiet_step ((first | (intro hw; with_reducible exact H3.out _ hw))))
              refine wpQuiet_nil ?_
              intro w4 hw4
              have HB4 := Lib.hid (show Below w.heap.size w w4 from HB3.out.trans (Below.mono hw4 HB3.out.size))
              clear hw4
              go_wp2
              go_ret
              exact ⟨by rw [HX.out]; rfl, HB4.out⟩
          · have y0 := hcy.c0
            have y1 := hcy.c1
            have y2 := hcy.c2
            have HY := Lib.hid hy
            have hwj : IntKind.i64.wrap (j : Int) = (j : Int) := IntWalk.i64_in _ (by omega)
            clear hcy hy
            cases hv : lt8 (pl y) (pl x) with
            | false =>
              have H2y := Lib.hid (H2.out y)
              rw [hv] at H2y
              have HX := Lib.hid (show R = false by
                rw [← HR.out]
                refine HNO.out fun h => ?_
                rw [HT.out, rl_snoc] at h
                have := h.2.2.1 y HY.out
                rw [hv] at this
                cases this)
              clear hv
              go_wp2_with fail
              refine wp_region_old (by kernel_rfl) (by kernel_rfl) ?_
              repeat (go_big_quiet_step ((first | (intro hw; with_reducible exact H1.out _ _ hw) | (intro hw; with_reducible exact H2y.out _ _ hw))))
              refine wpQuiet_nil ?_
              intro w3 hw3
              have HB3 := Lib.hid (show Below w.heap.size w w3 from HBW.out.trans (Below.mono hw3 HBW.out.size))
              clear hw3
              go_wp2
              go_ret
              exact ⟨by rw [HX.out]; rfl, HB3.out⟩
            | true =>
              have H2y := Lib.hid (H2.out y)
              rw [hv] at H2y
              have HLA := Lib.hid (show ∀ z, (l.take k).getLast? = some z → lt8 (pl z) (pl x) = true from fun z hz => by
                have := HY.out.symm.trans hz
                cases this
                exact hv)
              clear hv
              go_wp2_with fail
              refine wp_region_old (by kernel_rfl) (by kernel_rfl) ?_
              repeat (go_big_quiet_step ((first | (intro hw; with_reducible exact H1.out _ _ hw) | (intro hw; with_reducible exact H2y.out _ _ hw))))
              refine wpQuiet_nil ?_
              intro w3 hw3
              have HB3 := Lib.hid (show Below w.heap.size w w3 from HBW.out.trans (Below.mono hw3 HBW.out.size))
              clear y0 y1 y2
              have HQ3 := Lib.hid (HQ.out.below hw3)
              have HE3 := Lib.hid (RowN.below HEW.out hw3)
              clear hw3 q0 q1 q2 c0 c1 c2
              have q0 := HQ3.out.c0
              have q1 := HQ3.out.c1
              have q2 := HQ3.out.c2
              have H3 : Hid (∀ w', OldC w3 w' → Calls Try.prog 28 #[.slice (some ⟨b, off, none⟩) k cap, entV x.1 x.2.1 x.2.2] w' fun r w'' => r = .returned (.bool (decide (inD (l.take k) x))) ∧ OldC w3 w'') := fun w' hw' => by
                have hc := housed9 (l.take k) (some ⟨b, off, none⟩) cap x w' (Ents.take (RowN.below HE3.out hw') k) HI.out.2.1 (by rw [List.length_take]; omega) HVX.out
                rw [List.length_take, Nat.min_eq_left (by omega)] at hc
                refine hc.mono ?_
                rintro r w'' ⟨rfl, hb⟩
                exact ⟨rfl, hw'.then hb⟩
              by_cases hin : inD (l.take k) x
              · rw [decide_eq_true hin] at H3
                have HN := Lib.hid (show RL (l.take (k + 1)) by rw [HT.out, rl_snoc]; exact ⟨HI.out, HVX.out, HLA.out, hin⟩)
                clear hin
                go_wp2_with fail
                refine wp_region_old (by kernel_rfl) (by kernel_rfl) ?_
                repeat (go_big_quiet_step ((first | (intro hw; with_reducible exact H3.out _ hw))))
                refine wpQuiet_nil ?_
                intro w4 hw4
                have HB4 := Lib.hid (show Below w.heap.size w w4 from HB3.out.trans (Below.mono hw4 HB3.out.size))
                clear hw4
                go_wp2
                go_roundg (gk - 1)
                case measure => omega
                case rel => exact ⟨k + 1, by simp, by omega, HN.out, HB4.out⟩
              · rw [decide_eq_false hin] at H3
                have HX := Lib.hid (show R = false by
                  rw [← HR.out]
                  refine HNO.out fun h => ?_
                  rw [HT.out, rl_snoc] at h
                  exact hin h.2.2.2)
                clear hin
                go_wp2_with fail
                refine wp_region_old (by kernel_rfl) (by kernel_rfl) ?_
                repeat (go_big_quiet_step ((first | (intro hw; with_reducible exact H3.out _ hw))))
                refine wpQuiet_nil ?_
                intro w4 hw4
                have HB4 := Lib.hid (show Below w.heap.size w w4 from HB3.out.trans (Below.mono hw4 HB3.out.size))
                clear hw4
                go_wp2
                go_ret
                exact ⟨by rw [HX.out]; rfl, HB4.out⟩
      · have hlt' : ¬ (k : Int) < (l.length : Int) := by omega
        have HX := Lib.hid (show R = true by
          rw [← HR.out]
          have := HI.out
          rw [List.take_of_length_le (by omega)] at this
          exact decide_eq_true ⟨HL.out, this⟩)
        go_wp2
        go_ret
        exact ⟨by rw [HX.out]; rfl, HB.out⟩
  · have g64 : (64 : Int) < (l.length : Int) := by omega
    have HX := Lib.hid (show R = false by rw [← HR.out]; exact decide_eq_false fun h => h64 h.1)
    clear h hs h64
    go_enter Try.func15, Try.ntmps15
    go_wp2
    go_ret
    exact ⟨by rw [HX.out]; rfl, Below.refl _ _⟩
end Go.Proofs.Ytkannambildnoaa

namespace Go.Proofs.Ytkannambildnoaa
open Go.RowKit Go.Maps

/-- The directories that a map holds behind a list of entries. -/
def dset (l : List Ent) : List UInt8 → Option Value := l.foldl (fun f e => if hd e = true then fun x => if x = pl e then some (.agg #[]) else f x else f) fun x => if x = [47] then some (.agg #[]) else none
theorem dset_snoc (l : List Ent) (e : Ent) : dset (l ++ [e]) = if hd e = true then fun x => if x = pl e then some (.agg #[]) else dset l x else dset l := by unfold dset; rw [List.foldl_append]; rfl
theorem dset_some (l : List Ent) (p : List UInt8) : dset l p = if p = [47] ∨ ∃ d ∈ l, pl d = p ∧ hd d = true then some (.agg #[]) else none := by
  have key : ∀ n (l : List Ent), l.length = n → dset l p = if p = [47] ∨ ∃ d ∈ l, pl d = p ∧ hd d = true then some (.agg #[]) else none := by
    intro n
    induction n with
    | zero =>
      intro l hl
      rw [List.length_eq_zero_iff.1 hl]
      simp [dset]
    | succ n ih =>
      intro l hl
      rcases List.eq_nil_or_concat l with rfl | ⟨r, e, rfl⟩
      · simp at hl
      · rw [List.concat_eq_append] at *
        have ih := ih r (by simpa using hl)
        rw [dset_snoc]
        by_cases he : hd e = true
        · rw [if_pos he]
          show (if p = pl e then some (.agg #[]) else dset r p) = _
          by_cases hp : p = pl e
          · rw [if_pos hp, if_pos (.inr ⟨e, by simp, hp.symm, he⟩)]
          · rw [if_neg hp, ih]
            congr 1
            rw [eq_iff_iff]
            refine or_congr_right ⟨fun ⟨d, h1, h2⟩ => ⟨d, by simp [h1], h2⟩, fun ⟨d, h1, h2⟩ => ?_⟩
            rcases List.mem_append.1 h1 with h1 | h1
            · exact ⟨d, h1, h2⟩
            · obtain rfl : d = e := by simpa using h1
              exact absurd h2.1.symm hp
        · rw [if_neg he, ih]
          congr 1
          rw [eq_iff_iff]
          refine or_congr_right ⟨fun ⟨d, h1, h2⟩ => ⟨d, by simp [h1], h2⟩, fun ⟨d, h1, h2⟩ => ?_⟩
          rcases List.mem_append.1 h1 with h1 | h1
          · exact ⟨d, h1, h2⟩
          · obtain rfl : d = e := by simpa using h1
            exact absurd h2.2 he
  exact key _ l rfl
theorem dset_in (l : List Ent) (e : Ent) : (dset l (par9 (pl e))).isSome = decide (inD l e) := by
  rw [dset_some]
  by_cases h : inD l e
  · have h' : par9 (pl e) = [47] ∨ ∃ d ∈ l, pl d = par9 (pl e) ∧ hd d = true := h
    rw [if_pos h', decide_eq_true h]; rfl
  · have h' : ¬ (par9 (pl e) = [47] ∨ ∃ d ∈ l, pl d = par9 (pl e) ∧ hd d = true) := h
    rw [if_neg h', decide_eq_false h]; rfl
theorem dset_get (l : List Ent) (p : List UInt8) : (dset l p).getD (.agg #[]) = .agg #[] := by rw [dset_some]; split <;> rfl
theorem tr_snoc {l : List Ent} {e : Ent} : TR (l ++ [e]) ↔ TR l ∧ rE e = true ∧ e.2.1 ≤ 2 ∧ (∀ a, l.getLast? = some a → lt8 (pl a) (pl e) = true) ∧ inD l e := by
  unfold TR
  rw [rl_snoc]
  constructor
  · rintro ⟨⟨h1, h2, h3, h4⟩, h5⟩
    exact ⟨⟨h1, fun x hx => h5 x (by simp [hx])⟩, h2, h5 e (by simp), h3, h4⟩
  · rintro ⟨⟨h1, h6⟩, h2, h5, h3, h4⟩
    refine ⟨⟨h1, h2, h3, h4⟩, fun x hx => ?_⟩
    rcases List.mem_append.1 hx with hx | hx
    · exact h6 x hx
    · obtain rfl : x = e := by simpa using hx
      exact h5
theorem tr_takeC {l : List Ent} (h : TR l) (n : Nat) : TR (l.take n) := ⟨rl_take h.1 n, fun x hx => h.2 x (List.mem_of_mem_take hx)⟩
theorem tr_no {l : List Ent} {k : Nat} (h : ¬ TR (l.take (k + 1))) : decide (TreeL l) = false := decide_eq_false fun hr => h (tr_takeC hr.2 _)
attribute [local go_sem ↓] old_ldi old_lds old_lde3
attribute [local go_sem] oldC_forall isC1_ptr isS1_ptr c1V_ptr isE3_ptr e3V_ptr
set_option maxRecDepth 10000 in
set_option maxHeartbeats 4000000 in
theorem tree10 (l : List Ent) (a : Option Addr) (cap : Nat) (w : World) (h : Ents w a cap l) (hs : Sm l) : Calls Try.prog 13 #[.slice a l.length cap] w fun e w' => e = .returned (.bool (decide (TreeL l))) ∧ Below w.heap.size w w' := by
  obtain ⟨R, hR⟩ : ∃ R, decide (TreeL l) = R := ⟨_, rfl⟩
  rw [hR]
  have HR := Lib.hid hR
  have hmm := @run_makeMap Try.prog
  have g64 : ¬ (1024 : Int) < (l.length : Int) := by have := hs.1; omega
  have hz : ∀ W, (zeroValue 39).run Try.prog W = .ok (.agg #[]) W := by intro W; kernel_rfl
  obtain ⟨m, hm⟩ : ∃ m, w.heap.size = m := ⟨_, rfl⟩
  have hb0 : Below w.heap.size w (w.alloc (.map #[] 0)) := (Below.refl _ _).alloc (Nat.le_refl _) _
  obtain ⟨V0, hV0⟩ : ∃ V0, w.alloc (.map #[] 0) = V0 := ⟨_, rfl⟩
  have hM0 : MapS Try.prog 9 V0 m 0 fun _ => none := by rw [← hV0, ← hm]; exact mapS_made Try.prog 9 w
  rw [hV0] at hb0
  obtain ⟨V, hput, hMV, hgV⟩ := hM0.put (t := 40) (e := 39) Try.underlying9 Try.underlying40 (by unfold maxLen; omega) (i := ⟨#[47]⟩) (by decide) (.agg #[])
  have HMV := Lib.hid (show MapS Try.prog 9 V m 1 (dset []) from hMV)
  have HBV := Lib.hid (show Below m w V by
    rw [hm] at hb0
    exact hb0.grown hgV (by rw [← hm]; exact hb0.size) fun j hj => by cases hj; exact Nat.le_refl _)
  have HME := Lib.hid hm
  have HE := Lib.hid h
  have HS := Lib.hid hs
  have HCAP := Lib.hid h.1
  rw [hm]
  clear h hs hR hb0 hM0 hMV hgV
  go_enter Try.func13, Try.ntmps13
  go_wp2
  go_loopg [19] l.length (fun g i wx => ∃ k : Nat, i = .int .i64 (k : Int) ∧ k + g = l.length ∧ Hid (TR (l.take k)) ∧ Hid (MapS Try.prog 9 wx m (k + 1) (dset (l.take k))) ∧ Hid (Below m w wx))
  case atStart => exact ⟨0, rfl, by omega, by simpa [Hid] using tr_nil, HMV.out, HBV.out⟩
  case round =>
    obtain ⟨k, rfl, hk, HI, HM, HB⟩ := hrel
    have hw : IntKind.i64.wrap ((k : Int) + 1) = (k : Int) + 1 := IntWalk.i64_in _ (by omega)
    by_cases hlt : k < l.length
    · have hlt' : (k : Int) < (l.length : Int) := by omega
      have hkc : (k : Int) ≤ (cap : Int) := by have := HCAP.out; omega
      obtain ⟨b, off, rfl, hb, hc⟩ := HE.out.at (show Below w.heap.size w wr by rw [HME.out]; exact HB.out) hlt
      have HEr := Lib.hid (RowN.below HE.out (show Below w.heap.size w wr by rw [HME.out]; exact HB.out))
      have HT := Lib.hid (take_get l k hlt)
      have HDS := Lib.hid (show dset (l.take (k + 1)) = if hd l[k] = true then fun z => if z = pl l[k] then some (.agg #[]) else dset (l.take k) z else dset (l.take k) by rw [take_get l k hlt, dset_snoc])
      have HZ := Lib.hid (HS.out.2 _ (List.getElem_mem hlt))
      have HLT := Lib.hid (fun j (hj : k = j + 1) => last_take9 hlt hj)
      have HNO := Lib.hid (fun h => tr_no (l := l) (k := k) h)
      obtain ⟨x, hx⟩ : ∃ x, l[k] = x := ⟨_, rfl⟩
      rw [hx] at hc HT HZ HDS
      have c0 := hc.c0
      have c1 := hc.c1
      have c2 := hc.c2
      obtain ⟨W, hW⟩ : ∃ W, wr.alloc (.cells #[.string x.1, .int .i64 x.2.1, .string x.2.2] 34) = W := ⟨_, rfl⟩
      obtain ⟨M, hM⟩ : ∃ M, wr.heap.size = M := ⟨_, rfl⟩
      have hbW : Below wr.heap.size wr W := by rw [← hW]; exact (Below.refl _ _).alloc (Nat.le_refl _) _
      have HMR := Lib.hid (show m ≤ wr.heap.size by have := HB.out.size; have := HME.out; omega)
      have HBW := Lib.hid (HB.out.trans (hbW.mono HMR.out))
      have HMW := Lib.hid (show m ≤ W.heap.size by have := hbW.size; have := HMR.out; omega)
      have HMP := Lib.hid (HM.out.below hbW)
      have HQ := Lib.hid (show EnAt W M x.1 x.2.1 x.2.2 by rw [← hW, ← hM]; exact enAt_new _ _ _ _)
      have HEW := Lib.hid (RowN.below HEr.out hbW)
      have q0 := HQ.out.c0
      have q1 := HQ.out.c1
      have q2 := HQ.out.c2
      have H1 : Hid (∀ w0 w', OldC w0 w' → Calls Try.prog 23 #[entV x.1 x.2.1 x.2.2] w' fun r w'' => r = .returned (.bool (rE x)) ∧ OldC w0 w'') := fun w0 w' hw' => by
        refine (right8 x.1 x.2.1 x.2.2 (by have := HZ.out; unfold maxLen; omega) w').mono ?_
        rintro r w'' ⟨rfl, hb⟩
        exact ⟨rfl, hw'.then hb⟩
      have H4 : Hid (∀ w0 w', OldC w0 w' → Calls Try.prog 24 #[entV x.1 x.2.1 x.2.2] w' fun r w'' => r = .returned (.bool (x.2.1 == 1 || x.2.1 == 2)) ∧ OldC w0 w'') := fun w0 w' hw' => by
        refine (plain10 x w').mono ?_
        rintro r w'' ⟨rfl, hb⟩
        exact ⟨rfl, hw'.then hb⟩
      have H2 : Hid (∀ y : Ent, ∀ w0 w', OldC w0 w' → Calls Try.prog 25 #[entV y.1 y.2.1 y.2.2, entV x.1 x.2.1 x.2.2] w' fun r w'' => r = .returned (.bool (lt8 (pl y) (pl x))) ∧ OldC w0 w'') := fun y w0 w' hw' => by
        refine (less8 y.1 x.1 y.2.2 x.2.2 y.2.1 x.2.1 w').mono ?_
        rintro r w'' ⟨rfl, hb⟩
        exact ⟨rfl, hw'.then hb⟩
      clear hc hx hb hbW
      cases hv : rE x with
      | false =>
        rw [hv] at H1
        have HX := Lib.hid (show R = false by
          rw [← HR.out]
          refine HNO.out fun h => ?_
          rw [HT.out, tr_snoc, hv] at h
          cases h.2.1)
        clear hv
        go_wp2_with fail
        refine wp_region_old (by kernel_rfl) (by kernel_rfl) ?_
        repeat (go_big_quiet_step ((first | (intro hw; with_reducible exact H1.out _ _ hw))))
        refine wpQuiet_nil ?_
        intro w3 hw3
        have HB3 := Lib.hid (show Below m w w3 from HBW.out.trans (Below.mono hw3 HMW.out))
        clear hw3
        go_wp2
        go_ret
        exact ⟨by rw [HX.out]; rfl, HB3.out⟩
      | true =>
        rw [hv] at H1
        have HVX := Lib.hid hv
        clear hv
        cases hpv : (x.2.1 == 1 || x.2.1 == 2) with
        | false =>
          rw [hpv] at H4
          have HX := Lib.hid (show R = false by
            rw [← HR.out]
            refine HNO.out fun h => ?_
            rw [HT.out, tr_snoc] at h
            have hk9 := kind_of HVX.out
            have h9 := h.2.2.1
            have : x.2.1 = 1 ∨ x.2.1 = 2 := by omega
            rcases this with h | h <;> rw [h] at hpv <;> cases hpv)
          clear hpv
          go_wp2_with fail
          refine wp_region_old (by kernel_rfl) (by kernel_rfl) ?_
          repeat (go_big_quiet_step ((first | (intro hw; with_reducible exact H1.out _ _ hw) | (intro hw; with_reducible exact H4.out _ _ hw))))
          refine wpQuiet_nil ?_
          intro w3 hw3
          have HB3 := Lib.hid (show Below m w w3 from HBW.out.trans (Below.mono hw3 HMW.out))
          clear hw3
          go_wp2
          go_ret
          exact ⟨by rw [HX.out]; rfl, HB3.out⟩
        | true =>
          rw [hpv] at H4
          have HK2 := Lib.hid (show x.2.1 ≤ 2 by
            rw [Bool.or_eq_true, beq_iff_eq, beq_iff_eq] at hpv
            omega)
          have HPX := Lib.hid (rE_isP HVX.out)
          clear hpv
          have called : (decide (0 < k) = false ∧ ∀ y, (l.take k).getLast? = some y → lt8 (pl y) (pl x) = true) ∨ (decide (0 < k) = true ∧ ∃ (j : Nat) (y : Ent), (k : Int) - 1 = (j : Int) ∧ (l.take k).getLast? = some y ∧ EnCells W b (off + j * 3) y ∧ (j : Int) < (l.length : Int)) := by
            by_cases h0 : 0 < k
            · refine .inr ⟨decide_eq_true h0, k - 1, l[k - 1]'(by omega), by omega, HLT.out (k - 1) (by omega), ?_, by omega⟩
              obtain ⟨b', off', e9, _, h9⟩ := Ents.at HEW.out (Below.refl _ _) (show k - 1 < l.length by omega)
              cases e9
              exact h9
            · refine .inl ⟨decide_eq_false h0, fun y hy => ?_⟩
              obtain rfl : k = 0 := by omega
              simp at hy
          rcases called with ⟨g0, hlast⟩ | ⟨g0, j, y, hj, hy, hcy, hjl⟩
          · have HLA := Lib.hid hlast
            clear hlast
            go_wp2_with fail
            refine wp_region_old (by kernel_rfl) (by kernel_rfl) ?_
            repeat (go_big_quiet_step ((first | (intro hw; with_reducible exact H1.out _ _ hw) | (intro hw; with_reducible exact H4.out _ _ hw))))
            refine wpQuiet_nil ?_
            intro w3 hw3
            have HB3 := Lib.hid (show Below m w w3 from HBW.out.trans (Below.mono hw3 HMW.out))
            have HM3 := Lib.hid (show m ≤ w3.heap.size from Nat.le_trans HMW.out (Below.size hw3))
            have HQ3 := Lib.hid (HQ.out.below hw3)
            replace HMP := Lib.hid (HMP.out.below hw3)
            clear hw3 q0 q1 q2 c0 c1 c2
            have q0 := HQ3.out.c0
            go_wp2_with fail
            refine (par10 x.1 HPX.out.1 _).mono ?_
            rintro r w4 ⟨d, nm, er, rfl, ho, hb⟩
            obtain ⟨h9, _⟩ | ⟨_, rfl, hd9⟩ := ho
            · exact absurd h9 HPX.out.2
            have HB4 := Lib.hid (HB3.out.trans (hb.mono HM3.out))
            have HM4 := Lib.hid (show m ≤ w4.heap.size from Nat.le_trans HM3.out hb.size)
            replace HMP := Lib.hid (HMP.out.below hb)
            replace HQ3 := Lib.hid (HQ3.out.below hb)
            clear q0 hb
            have hd54 := isP_len (par9_isP HPX.out.1 HPX.out.2).1
            rw [← hd9, ← Lib.size_eq] at hd54
            have hlk := (MapS.look HMP.out Try.underlying9 (t := 40) (e := 39) Try.underlying40 (hz w4) (i := d) (by unfold maxLen; omega)).2
            rw [hd9, dset_get, dset_in] at hlk
            clear hd9 hd54
            obtain ⟨U, hU⟩ : ∃ U, w4.alloc (.cells #[] 39) = U := ⟨_, rfl⟩
            have hbU : Below w4.heap.size w4 U := by rw [← hU]; exact (Below.refl _ _).alloc (Nat.le_refl _) _
            have HBU := Lib.hid (HB4.out.trans (hbU.mono HM4.out))
            have HMU := Lib.hid (show m ≤ U.heap.size from Nat.le_trans HM4.out hbU.size)
            replace HMP := Lib.hid (HMP.out.below hbU)
            replace HQ3 := Lib.hid (HQ3.out.below hbU)
            clear hbU
            by_cases hin : inD (l.take k) x
            · rw [decide_eq_true hin] at hlk
              have HN := Lib.hid (show TR (l.take (k + 1)) by rw [HT.out, tr_snoc]; exact ⟨HI.out, HVX.out, HK2.out, HLA.out, hin⟩)
              clear hin
              have q0 := HQ3.out.c0
              have q1 := HQ3.out.c1
              have q2 := HQ3.out.c2
              go_wp2_with fail
              refine (holds8 x.1 x.2.2 x.2.1 _).mono ?_
              rintro r w5 ⟨rfl, hb⟩
              have HB5 := Lib.hid (HBU.out.trans (hb.mono HMU.out))
              have HM5 := Lib.hid (show m ≤ w5.heap.size from Nat.le_trans HMU.out hb.size)
              replace HMP := Lib.hid (HMP.out.below hb)
              replace HQ3 := Lib.hid (HQ3.out.below hb)
              clear hb q0 q1 q2 hlk
              cases hh : (x.2.1 == 2 || x.2.1 == 4) with
              | false =>
                rw [if_neg (by show ¬ (x.2.1 == 2 || x.2.1 == 4) = true; rw [hh]; simp)] at HDS
                clear hh
                go_wp2
                go_roundg (gk - 1)
                case measure => omega
                case rel => exact ⟨k + 1, by simp, by omega, HN.out, by rw [HDS.out]; exact HMP.out.mono (Nat.le_succ _), HB5.out⟩
              | true =>
                rw [if_pos (by show (x.2.1 == 2 || x.2.1 == 4) = true; exact hh)] at HDS
                have q0 := HQ3.out.c0
                obtain ⟨w7, hput7, hm7, hg7⟩ := HMP.out.put (t := 40) (e := 39) Try.underlying9 Try.underlying40 (by have := HS.out.1; unfold maxLen; omega) (i := x.1) (by have := HZ.out; unfold maxLen; omega) (.agg #[])
                have HM7 := Lib.hid hm7
                have HB7 := Lib.hid (HB5.out.grown hg7 HM5.out fun j hj => by cases hj; exact Nat.le_refl _)
                clear hh hm7 hg7
                go_wp2
                go_roundg (gk - 1)
                case measure => omega
                case rel => exact ⟨k + 1, by simp, by omega, HN.out, by rw [HDS.out]; exact HM7.out, HB7.out⟩
            · rw [decide_eq_false hin] at hlk
              have HX := Lib.hid (show R = false by
                rw [← HR.out]
                refine HNO.out fun h => ?_
                rw [HT.out, tr_snoc] at h
                exact hin h.2.2.2.2)
              clear hin
              go_wp2
              go_ret
              exact ⟨by rw [HX.out]; rfl, HBU.out⟩
          · have y0 := hcy.c0
            have y1 := hcy.c1
            have y2 := hcy.c2
            have HY := Lib.hid hy
            have hwj : IntKind.i64.wrap (j : Int) = (j : Int) := IntWalk.i64_in _ (by omega)
            clear hcy hy
            cases hv : lt8 (pl y) (pl x) with
            | false =>
              have H2y := Lib.hid (H2.out y)
              rw [hv] at H2y
              have HX := Lib.hid (show R = false by
                rw [← HR.out]
                refine HNO.out fun h => ?_
                rw [HT.out, tr_snoc] at h
                have := h.2.2.2.1 y HY.out
                rw [hv] at this
                cases this)
              clear hv
              go_wp2_with fail
              refine wp_region_old (by kernel_rfl) (by kernel_rfl) ?_
              repeat (go_big_quiet_step ((first | (intro hw; with_reducible exact H1.out _ _ hw) | (intro hw; with_reducible exact H4.out _ _ hw) | (intro hw; with_reducible exact H2y.out _ _ hw))))
              refine wpQuiet_nil ?_
              intro w3 hw3
              have HB3 := Lib.hid (show Below m w w3 from HBW.out.trans (Below.mono hw3 HMW.out))
              clear hw3
              go_wp2
              go_ret
              exact ⟨by rw [HX.out]; rfl, HB3.out⟩
            | true =>
              have H2y := Lib.hid (H2.out y)
              rw [hv] at H2y
              have HLA := Lib.hid (show ∀ z, (l.take k).getLast? = some z → lt8 (pl z) (pl x) = true from fun z hz => by
                have := HY.out.symm.trans hz
                cases this
                exact hv)
              clear hv
              go_wp2_with fail
              refine wp_region_old (by kernel_rfl) (by kernel_rfl) ?_
              repeat (go_big_quiet_step ((first | (intro hw; with_reducible exact H1.out _ _ hw) | (intro hw; with_reducible exact H4.out _ _ hw) | (intro hw; with_reducible exact H2y.out _ _ hw))))
              refine wpQuiet_nil ?_
              intro w3 hw3
              clear y0 y1 y2
              have HB3 := Lib.hid (show Below m w w3 from HBW.out.trans (Below.mono hw3 HMW.out))
              have HM3 := Lib.hid (show m ≤ w3.heap.size from Nat.le_trans HMW.out (Below.size hw3))
              have HQ3 := Lib.hid (HQ.out.below hw3)
              replace HMP := Lib.hid (HMP.out.below hw3)
              clear hw3 q0 q1 q2 c0 c1 c2
              have q0 := HQ3.out.c0
              go_wp2_with fail
              refine (par10 x.1 HPX.out.1 _).mono ?_
              rintro r w4 ⟨d, nm, er, rfl, ho, hb⟩
              obtain ⟨h9, _⟩ | ⟨_, rfl, hd9⟩ := ho
              · exact absurd h9 HPX.out.2
              have HB4 := Lib.hid (HB3.out.trans (hb.mono HM3.out))
              have HM4 := Lib.hid (show m ≤ w4.heap.size from Nat.le_trans HM3.out hb.size)
              replace HMP := Lib.hid (HMP.out.below hb)
              replace HQ3 := Lib.hid (HQ3.out.below hb)
              clear q0 hb
              have hd54 := isP_len (par9_isP HPX.out.1 HPX.out.2).1
              rw [← hd9, ← Lib.size_eq] at hd54
              have hlk := (MapS.look HMP.out Try.underlying9 (t := 40) (e := 39) Try.underlying40 (hz w4) (i := d) (by unfold maxLen; omega)).2
              rw [hd9, dset_get, dset_in] at hlk
              clear hd9 hd54
              obtain ⟨U, hU⟩ : ∃ U, w4.alloc (.cells #[] 39) = U := ⟨_, rfl⟩
              have hbU : Below w4.heap.size w4 U := by rw [← hU]; exact (Below.refl _ _).alloc (Nat.le_refl _) _
              have HBU := Lib.hid (HB4.out.trans (hbU.mono HM4.out))
              have HMU := Lib.hid (show m ≤ U.heap.size from Nat.le_trans HM4.out hbU.size)
              replace HMP := Lib.hid (HMP.out.below hbU)
              replace HQ3 := Lib.hid (HQ3.out.below hbU)
              clear hbU
              by_cases hin : inD (l.take k) x
              · rw [decide_eq_true hin] at hlk
                have HN := Lib.hid (show TR (l.take (k + 1)) by rw [HT.out, tr_snoc]; exact ⟨HI.out, HVX.out, HK2.out, HLA.out, hin⟩)
                clear hin
                have q0 := HQ3.out.c0
                have q1 := HQ3.out.c1
                have q2 := HQ3.out.c2
                go_wp2_with fail
                refine (holds8 x.1 x.2.2 x.2.1 _).mono ?_
                rintro r w5 ⟨rfl, hb⟩
                have HB5 := Lib.hid (HBU.out.trans (hb.mono HMU.out))
                have HM5 := Lib.hid (show m ≤ w5.heap.size from Nat.le_trans HMU.out hb.size)
                replace HMP := Lib.hid (HMP.out.below hb)
                replace HQ3 := Lib.hid (HQ3.out.below hb)
                clear hb q0 q1 q2 hlk
                cases hh : (x.2.1 == 2 || x.2.1 == 4) with
                | false =>
                  rw [if_neg (by show ¬ (x.2.1 == 2 || x.2.1 == 4) = true; rw [hh]; simp)] at HDS
                  clear hh
                  go_wp2
                  go_roundg (gk - 1)
                  case measure => omega
                  case rel => exact ⟨k + 1, by simp, by omega, HN.out, by rw [HDS.out]; exact HMP.out.mono (Nat.le_succ _), HB5.out⟩
                | true =>
                  rw [if_pos (by show (x.2.1 == 2 || x.2.1 == 4) = true; exact hh)] at HDS
                  have q0 := HQ3.out.c0
                  obtain ⟨w7, hput7, hm7, hg7⟩ := HMP.out.put (t := 40) (e := 39) Try.underlying9 Try.underlying40 (by have := HS.out.1; unfold maxLen; omega) (i := x.1) (by have := HZ.out; unfold maxLen; omega) (.agg #[])
                  have HM7 := Lib.hid hm7
                  have HB7 := Lib.hid (HB5.out.grown hg7 HM5.out fun j hj => by cases hj; exact Nat.le_refl _)
                  clear hh hm7 hg7
                  go_wp2
                  go_roundg (gk - 1)
                  case measure => omega
                  case rel => exact ⟨k + 1, by simp, by omega, HN.out, by rw [HDS.out]; exact HM7.out, HB7.out⟩
              · rw [decide_eq_false hin] at hlk
                have HX := Lib.hid (show R = false by
                  rw [← HR.out]
                  refine HNO.out fun h => ?_
                  rw [HT.out, tr_snoc] at h
                  exact hin h.2.2.2.2)
                clear hin
                go_wp2
                go_ret
                exact ⟨by rw [HX.out]; rfl, HBU.out⟩
    · have hlt' : ¬ (k : Int) < (l.length : Int) := by omega
      have HX := Lib.hid (show R = true by
        rw [← HR.out]
        have := HI.out
        rw [List.take_of_length_le (by omega)] at this
        exact decide_eq_true ⟨by have := HS.out.1; omega, this⟩)
      go_wp2
      go_ret
      exact ⟨by rw [HX.out]; rfl, HB.out⟩
end Go.Proofs.Ytkannambildnoaa

namespace Go.Proofs.Ytkannambildnoaa
open Go.RowKit

set_option maxRecDepth 10000 in
set_option maxHeartbeats 2000000 in
theorem over10 (t l : List Ent) (a : Option Addr) (cap : Nat) (a2 : Option Addr) (cap2 : Nat) (w : World) (ht : Ents w a cap t) (hl : Ents w a2 cap2 l) (hs : Sm t) (hs2 : Sm l) :
    Calls Try.prog 14 #[.slice a t.length cap, .slice a2 l.length cap2] w fun e w' => ∃ a' cap', e = .returned (.slice a' (ovV t l).length cap') ∧ Ents w' a' cap' (ovV t l) ∧ Below w.heap.size w w' := by
  have HT := Lib.hid ht
  have HL := Lib.hid hl
  have HS := Lib.hid hs
  have HS2 := Lib.hid hs2
  have HN := Lib.hid hs.1
  clear ht hl hs hs2
  by_cases h1 : TreeL t
  · by_cases h2 : RightL l
    · have H1 := Lib.hid h1
      have H2 := Lib.hid h2
      clear h1 h2
      go_enter Try.func14, Try.ntmps14
      go_wp2_with fail
      refine (tree10 t a cap _ HT.out HS.out).mono ?_
      rintro e w1 ⟨rfl, hb⟩
      rw [decide_eq_true H1.out]
      have HB1 := Lib.hid hb
      replace HT := Lib.hid (RowN.below HT.out hb)
      replace HL := Lib.hid (RowN.below HL.out hb)
      clear hb
      go_wp2_with fail
      refine (right9 l a2 cap2 _ HL.out HS2.out).mono ?_
      rintro e w2 ⟨rfl, hb⟩
      rw [decide_eq_true H2.out]
      have HB2 := Lib.hid (HB1.out.trans (hb.mono HB1.out.size))
      replace HT := Lib.hid (RowN.below HT.out hb)
      replace HL := Lib.hid (RowN.below HL.out hb)
      clear hb
      go_wp2_with fail
      refine (laid10 t l a cap a2 cap2 _ HT.out HL.out H1.out.2 H2.out HN.out).mono ?_
      rintro e w4 ⟨a', cap', rfl, hE, hb⟩
      have HB4 := Lib.hid (HB2.out.trans (hb.mono HB2.out.size))
      have HE4 := Lib.hid hE
      clear hE hb
      by_cases h3 : (over t l).length ≤ 1024
      · have h3' : ¬ (1024 : Int) < ((over t l).length : Int) := by omega
        have HV := Lib.hid (show ovV t l = over t l by unfold ovV; rw [if_pos ⟨H1.out, H2.out, h3⟩])
        clear h3
        go_wp2
        go_ret
        exact ⟨a', cap', by rw [HV.out]; rfl, by rw [HV.out]; exact HE4.out, HB4.out⟩
      · have h3' : (1024 : Int) < ((over t l).length : Int) := by omega
        have HV := Lib.hid (show ovV t l = [] by unfold ovV; rw [if_neg fun h => h3 h.2.2])
        clear h3
        go_wp2
        go_ret
        exact ⟨none, 0, by rw [HV.out]; rfl, by rw [HV.out]; exact ents_nil _ _ _, HB4.out⟩
    · have HV := Lib.hid (show ovV t l = [] by unfold ovV; rw [if_neg fun h => h2 h.2.1])
      go_enter Try.func14, Try.ntmps14
      go_wp2_with fail
      refine (tree10 t a cap _ HT.out HS.out).mono ?_
      rintro e w1 ⟨rfl, hb⟩
      rw [decide_eq_true h1]
      have HB1 := Lib.hid hb
      replace HT := Lib.hid (RowN.below HT.out hb)
      replace HL := Lib.hid (RowN.below HL.out hb)
      clear hb
      go_wp2_with fail
      refine (right9 l a2 cap2 _ HL.out HS2.out).mono ?_
      rintro e w2 ⟨rfl, hb⟩
      rw [decide_eq_false h2]
      have HB2 := Lib.hid (HB1.out.trans (hb.mono HB1.out.size))
      replace HT := Lib.hid (RowN.below HT.out hb)
      replace HL := Lib.hid (RowN.below HL.out hb)
      clear hb
      go_wp2
      go_ret
      exact ⟨none, 0, by rw [HV.out]; rfl, by rw [HV.out]; exact ents_nil _ _ _, HB2.out⟩
  · have HV := Lib.hid (show ovV t l = [] by unfold ovV; rw [if_neg fun h => h1 h.1])
    go_enter Try.func14, Try.ntmps14
    go_wp2_with fail
    refine (tree10 t a cap _ HT.out HS.out).mono ?_
    rintro e w1 ⟨rfl, hb⟩
    rw [decide_eq_false h1]
    have HB1 := Lib.hid hb
    replace HT := Lib.hid (RowN.below HT.out hb)
    replace HL := Lib.hid (RowN.below HL.out hb)
    clear hb
    go_wp2
    go_ret
    exact ⟨none, 0, by rw [HV.out]; rfl, by rw [HV.out]; exact ents_nil _ _ _, HB1.out⟩
set_option maxRecDepth 10000 in
set_option maxHeartbeats 2000000 in
theorem stack10 (S : List (List Ent)) (a : Option Addr) (cap : Nat) (w : World) (h : Stk w a cap S) (hs : ∀ l ∈ S, Sm l) :
    Calls Try.prog 12 #[.slice a S.length cap] w fun e w' => ∃ a' cap', e = .returned (.slice a' (stV S).length cap') ∧ Ents w' a' cap' (stV S) ∧ Below w.heap.size w w' := by
  have HE := Lib.hid h
  have HS := Lib.hid hs
  clear h hs
  by_cases h9 : S.length ≤ 9
  · have g9 : ¬ (9 : Int) < (S.length : Int) := by omega
    have HL := Lib.hid h9
    go_enter Try.func12, Try.ntmps12
    go_wp2
    go_loopg [3, 11] S.length (fun g v i wx => ∃ (k : Nat) (a5 : Option Addr) (cap5 : Nat) (o : List Ent), v = .slice a5 o.length cap5 ∧ i = .int .i64 (k : Int) ∧ k + g = S.length ∧ Hid (o = stk (S.take k) ∧ ∀ l ∈ S.take k, RightL l) ∧ Hid (Ents wx a5 cap5 o) ∧ Hid (Below w.heap.size w wx))
    case atStart => exact ⟨0, none, 0, [], rfl, rfl, by omega, ⟨rfl, by simp⟩, ents_nil _ _ _, Below.refl _ _⟩
    case round =>
      obtain ⟨k, a5, cap5, o, rfl, rfl, hk, HO, HEO, HB⟩ := hrel
      by_cases hlt : k < S.length
      · have hlt' : (k : Int) < (S.length : Int) := by omega
        have hw : IntKind.i64.wrap ((k : Int) + 1) = (k : Int) + 1 := IntWalk.i64_in _ (by omega)
        have HTO := Lib.hid (show TR o by rw [HO.out.1]; exact tr_stk HO.out.2)
        have HOL := Lib.hid (show o.length ≤ 1000 by
          have h1 := stk_len HO.out.2
          have := HL.out
          rw [List.length_take] at h1
          rw [HO.out.1]
          omega)
        obtain ⟨b, off, a', cap', rfl, hc, hE⟩ := HE.out.at HB.out hlt
        have HX := Lib.hid (HS.out _ (List.getElem_mem hlt))
        have HMX := Lib.hid (List.getElem_mem hlt)
        have HN := Lib.hid (take_get S k hlt)
        obtain ⟨x, hx⟩ : ∃ x, S[k] = x := ⟨_, rfl⟩
        rw [hx] at hc hE HX HN HMX
        have HEx := Lib.hid hE
        clear hx hE
        by_cases hr : RightL x
        · have HRX := Lib.hid hr
          go_wp2_with fail
          refine (right9 x a' cap' _ HEx.out HX.out).mono ?_
          rintro e w1 ⟨rfl, hb⟩
          rw [decide_eq_true hr]
          have HB1 := Lib.hid (HB.out.trans (hb.mono HB.out.size))
          replace HEx := Lib.hid (RowN.below HEx.out hb)
          replace HEO := Lib.hid (RowN.below HEO.out hb)
          clear hb hc hr
          go_wp2_with fail
          refine (laid10 o x a5 cap5 a' cap' _ HEO.out HEx.out HTO.out HRX.out HOL.out).mono ?_
          rintro e w2 ⟨a8, cap8, rfl, h8, hb⟩
          have HB2 := Lib.hid (HB1.out.trans (hb.mono HB1.out.size))
          have HE8 := Lib.hid h8
          have HNN := Lib.hid (show over o x = stk (S.take (k + 1)) ∧ ∀ l ∈ S.take (k + 1), RightL l from ⟨by rw [HN.out, stk_snoc, HO.out.1], fun l hl => by
            rw [HN.out] at hl
            rcases List.mem_append.1 hl with hl | hl
            · exact HO.out.2 l hl
            · obtain rfl : l = x := by simpa using hl
              exact HRX.out⟩)
          clear hb h8
          go_wp2
          go_roundg (gk - 1)
          case measure => omega
          case rel => exact ⟨k + 1, a8, cap8, _, rfl, by simp, by omega, HNN.out, HE8.out, HB2.out⟩
        · have HV := Lib.hid (show stV S = [] by unfold stV; rw [if_neg fun h => hr (h.2 x HMX.out)])
          go_wp2_with fail
          refine (right9 x a' cap' _ HEx.out HX.out).mono ?_
          rintro e w1 ⟨rfl, hb⟩
          rw [decide_eq_false hr]
          have HB1 := Lib.hid (HB.out.trans (hb.mono HB.out.size))
          clear hb hc hr
          go_wp2
          go_ret
          exact ⟨none, 0, by rw [HV.out]; rfl, by rw [HV.out]; exact ents_nil _ _ _, HB1.out⟩
      · have hlt' : ¬ (k : Int) < (S.length : Int) := by omega
        have HV := Lib.hid (show stV S = o by
          have h1 := HO.out
          rw [List.take_of_length_le (by omega)] at h1
          unfold stV
          rw [if_pos ⟨HL.out, h1.2⟩, h1.1])
        go_wp2
        go_ret
        exact ⟨a5, cap5, by rw [HV.out]; rfl, by rw [HV.out]; exact HEO.out, HB.out⟩
  · have g9 : (9 : Int) < (S.length : Int) := by omega
    have HV := Lib.hid (show stV S = [] by unfold stV; rw [if_neg fun h => h9 h.1])
    clear h9
    go_enter Try.func12, Try.ntmps12
    go_wp2
    go_ret
    exact ⟨none, 0, by rw [HV.out]; rfl, by rw [HV.out]; exact ents_nil _ _ _, Below.refl _ _⟩
theorem fold10 : Fold10 where
  right l a cap w _ h hs := right9 l a cap w h hs
  tree l a cap w _ h hs := tree10 l a cap w h hs
  over t l a cap a2 cap2 w _ ht hl hs hs2 := over10 t l a cap a2 cap2 w ht hl hs hs2
  stack S a cap w _ h _ hs := stack10 S a cap w h hs
end Go.Proofs.Ytkannambildnoaa

namespace Go.Proofs.Ytkannambildnoaa
open Go.RowKit

theorem ex10 : stV [[dE ⟨#[47, 97]⟩, (⟨#[47, 97, 47, 98]⟩, 1, ⟨#[]⟩)], [(⟨#[47, 97]⟩, 4, ⟨#[]⟩)]] = [dE ⟨#[47, 97]⟩] := by decide +kernel
theorem ents_block {w : World} {b : Nat} {cs : Array Value} {l : List Ent} {cap : Nat} (h : w.heap[b]? = some (.cells cs 34 (0, 0))) (hc : cs.toList = l.flatMap enc) (hl : l.length ≤ cap) : Ents w (some ⟨b, 0, none⟩) cap l := by
  refine ⟨hl, .inr ⟨b, 0, rfl, (Array.getElem?_eq_some_iff.1 h).1, fun j x hx i v hv => ?_⟩⟩
  have hi : i < 3 := (List.getElem?_eq_some_iff.1 hv).1
  have h1 := flat_get l j i hi
  rw [hx, Option.bind_some, hv, ← hc, Array.getElem?_toList] at h1
  rw [Lib.cell_of_heap h]
  simpa using h1
/-- The example's stack in memory. -/
theorem ex_stk (w : World) : ∃ V, (((((w.alloc (.cells #[.string ⟨#[47, 97]⟩, .int .i64 2, .string ⟨#[]⟩] 34)).alloc (.cells #[.string ⟨#[47, 97, 47, 98]⟩, .int .i64 1, .string ⟨#[]⟩] 34)).alloc (.cells #[.string ⟨#[47, 97]⟩, .int .i64 2, .string ⟨#[]⟩, .string ⟨#[47, 97, 47, 98]⟩, .int .i64 1, .string ⟨#[]⟩] 34)).alloc (.cells #[.string ⟨#[47, 97]⟩, .int .i64 4, .string ⟨#[]⟩] 34)).alloc (.cells #[.slice (some ⟨w.heap.size + 1 + 1, 0, none⟩) 2 2, .slice (some ⟨w.heap.size + 1 + 1 + 1, 0, none⟩) 1 1] 23)) = V ∧ Below w.heap.size w V ∧ EnAt V w.heap.size ⟨#[47, 97]⟩ 2 ⟨#[]⟩ ∧ Stk V (some ⟨w.heap.size + 1 + 1 + 1 + 1, 0, none⟩) 2 [[dE ⟨#[47, 97]⟩, (⟨#[47, 97, 47, 98]⟩, 1, ⟨#[]⟩)], [(⟨#[47, 97]⟩, 4, ⟨#[]⟩)]] := by
  obtain ⟨w1, h1⟩ : ∃ w1, w.alloc (.cells #[.string ⟨#[47, 97]⟩, .int .i64 2, .string ⟨#[]⟩] 34) = w1 := ⟨_, rfl⟩
  rw [h1]
  have s1 : w1.heap.size = w.heap.size + 1 := by rw [← h1]; simp
  have q1_1 : w1.heap[w.heap.size]? = some (.cells #[.string ⟨#[47, 97]⟩, .int .i64 2, .string ⟨#[]⟩] 34) := by rw [← h1]; exact heap_alloc_new _ _
  have d1 : Below w.heap.size w w1 := by rw [← h1]; exact (Below.refl _ _).alloc (by omega) _
  obtain ⟨w2, h2⟩ : ∃ w2, w1.alloc (.cells #[.string ⟨#[47, 97, 47, 98]⟩, .int .i64 1, .string ⟨#[]⟩] 34) = w2 := ⟨_, rfl⟩
  rw [h2]
  have s2 : w2.heap.size = w.heap.size + 2 := by rw [← h2]; simp; omega
  have q1_2 : w2.heap[w.heap.size]? = some (.cells #[.string ⟨#[47, 97]⟩, .int .i64 2, .string ⟨#[]⟩] 34) := by rw [← h2, Below.heap_alloc _ _ _ (by omega)]; exact q1_1
  have q2_2 : w2.heap[w.heap.size + 1]? = some (.cells #[.string ⟨#[47, 97, 47, 98]⟩, .int .i64 1, .string ⟨#[]⟩] 34) := by
    rw [← h2, show w.heap.size + 1 = w1.heap.size by omega]
    exact heap_alloc_new _ _
  have d2 : Below w.heap.size w w2 := by rw [← h2]; exact d1.alloc (by omega) _
  obtain ⟨w3, h3⟩ : ∃ w3, w2.alloc (.cells #[.string ⟨#[47, 97]⟩, .int .i64 2, .string ⟨#[]⟩, .string ⟨#[47, 97, 47, 98]⟩, .int .i64 1, .string ⟨#[]⟩] 34) = w3 := ⟨_, rfl⟩
  rw [h3]
  have s3 : w3.heap.size = w.heap.size + 3 := by rw [← h3]; simp; omega
  have q1_3 : w3.heap[w.heap.size]? = some (.cells #[.string ⟨#[47, 97]⟩, .int .i64 2, .string ⟨#[]⟩] 34) := by rw [← h3, Below.heap_alloc _ _ _ (by omega)]; exact q1_2
  have q2_3 : w3.heap[w.heap.size + 1]? = some (.cells #[.string ⟨#[47, 97, 47, 98]⟩, .int .i64 1, .string ⟨#[]⟩] 34) := by rw [← h3, Below.heap_alloc _ _ _ (by omega)]; exact q2_2
  have q3_3 : w3.heap[w.heap.size + 1 + 1]? = some (.cells #[.string ⟨#[47, 97]⟩, .int .i64 2, .string ⟨#[]⟩, .string ⟨#[47, 97, 47, 98]⟩, .int .i64 1, .string ⟨#[]⟩] 34) := by
    rw [← h3, show w.heap.size + 1 + 1 = w2.heap.size by omega]
    exact heap_alloc_new _ _
  have d3 : Below w.heap.size w w3 := by rw [← h3]; exact d2.alloc (by omega) _
  obtain ⟨w4, h4⟩ : ∃ w4, w3.alloc (.cells #[.string ⟨#[47, 97]⟩, .int .i64 4, .string ⟨#[]⟩] 34) = w4 := ⟨_, rfl⟩
  rw [h4]
  have s4 : w4.heap.size = w.heap.size + 4 := by rw [← h4]; simp; omega
  have q1_4 : w4.heap[w.heap.size]? = some (.cells #[.string ⟨#[47, 97]⟩, .int .i64 2, .string ⟨#[]⟩] 34) := by rw [← h4, Below.heap_alloc _ _ _ (by omega)]; exact q1_3
  have q2_4 : w4.heap[w.heap.size + 1]? = some (.cells #[.string ⟨#[47, 97, 47, 98]⟩, .int .i64 1, .string ⟨#[]⟩] 34) := by rw [← h4, Below.heap_alloc _ _ _ (by omega)]; exact q2_3
  have q3_4 : w4.heap[w.heap.size + 1 + 1]? = some (.cells #[.string ⟨#[47, 97]⟩, .int .i64 2, .string ⟨#[]⟩, .string ⟨#[47, 97, 47, 98]⟩, .int .i64 1, .string ⟨#[]⟩] 34) := by rw [← h4, Below.heap_alloc _ _ _ (by omega)]; exact q3_3
  have q4_4 : w4.heap[w.heap.size + 1 + 1 + 1]? = some (.cells #[.string ⟨#[47, 97]⟩, .int .i64 4, .string ⟨#[]⟩] 34) := by
    rw [← h4, show w.heap.size + 1 + 1 + 1 = w3.heap.size by omega]
    exact heap_alloc_new _ _
  have d4 : Below w.heap.size w w4 := by rw [← h4]; exact d3.alloc (by omega) _
  obtain ⟨w5, h5⟩ : ∃ w5, w4.alloc (.cells #[.slice (some ⟨w.heap.size + 1 + 1, 0, none⟩) 2 2, .slice (some ⟨w.heap.size + 1 + 1 + 1, 0, none⟩) 1 1] 23) = w5 := ⟨_, rfl⟩
  rw [h5]
  have s5 : w5.heap.size = w.heap.size + 5 := by rw [← h5]; simp; omega
  have q1_5 : w5.heap[w.heap.size]? = some (.cells #[.string ⟨#[47, 97]⟩, .int .i64 2, .string ⟨#[]⟩] 34) := by rw [← h5, Below.heap_alloc _ _ _ (by omega)]; exact q1_4
  have q2_5 : w5.heap[w.heap.size + 1]? = some (.cells #[.string ⟨#[47, 97, 47, 98]⟩, .int .i64 1, .string ⟨#[]⟩] 34) := by rw [← h5, Below.heap_alloc _ _ _ (by omega)]; exact q2_4
  have q3_5 : w5.heap[w.heap.size + 1 + 1]? = some (.cells #[.string ⟨#[47, 97]⟩, .int .i64 2, .string ⟨#[]⟩, .string ⟨#[47, 97, 47, 98]⟩, .int .i64 1, .string ⟨#[]⟩] 34) := by rw [← h5, Below.heap_alloc _ _ _ (by omega)]; exact q3_4
  have q4_5 : w5.heap[w.heap.size + 1 + 1 + 1]? = some (.cells #[.string ⟨#[47, 97]⟩, .int .i64 4, .string ⟨#[]⟩] 34) := by rw [← h5, Below.heap_alloc _ _ _ (by omega)]; exact q4_4
  have q5_5 : w5.heap[w.heap.size + 1 + 1 + 1 + 1]? = some (.cells #[.slice (some ⟨w.heap.size + 1 + 1, 0, none⟩) 2 2, .slice (some ⟨w.heap.size + 1 + 1 + 1, 0, none⟩) 1 1] 23) := by
    rw [← h5, show w.heap.size + 1 + 1 + 1 + 1 = w4.heap.size by omega]
    exact heap_alloc_new _ _
  have d5 : Below w.heap.size w w5 := by rw [← h5]; exact d4.alloc (by omega) _
  refine ⟨w5, rfl, d5, q1_5, by simp, .inr ⟨_, 0, rfl, by omega, fun j l hl => ?_⟩⟩
  match j, hl with
  | 0, hl =>
    obtain rfl : [dE ⟨#[47, 97]⟩, ((⟨#[47, 97, 47, 98]⟩, 1, ⟨#[]⟩) : Ent)] = l := by simpa using hl
    exact ⟨_, 2, (cell_of8 q5_5 rfl).1, ents_block q3_5 rfl (by simp)⟩
  | 1, hl =>
    obtain rfl : [((⟨#[47, 97]⟩, 4, ⟨#[]⟩) : Ent)] = l := by simpa using hl
    exact ⟨_, 1, (cell_of8 q5_5 rfl).1, ents_block q4_5 rfl (by simp)⟩
attribute [local go_sem ↓] old_ldi old_lds old_lde3 old_eqen old_neen
attribute [local go_sem] oldC_forall isC1_ptr isS1_ptr c1V_ptr isE3_ptr e3V_ptr isEv_agg evEq_agg eta_ent
set_option maxRecDepth 10000 in
theorem awake10 (L : Fold10) (w : World) (hg : Env w) : Calls Try.prog 9 #[] w fun e w' => e = .returned (.bool true) ∧ Below w.heap.size w w' := by
  have HS0 := Lib.hid (st10_self hg)
  clear hg
  obtain ⟨V, hV, hb, hq, hk⟩ := ex_stk w
  have HS1 := Lib.hid (HS0.out.next hb)
  have HQ := Lib.hid hq
  have HK := Lib.hid (L.stack _ _ _ V HS1.out.env hk (by simp) (fun l hl => by
    rcases List.mem_cons.1 hl with rfl | hl
    · exact ⟨by simp, fun e he => by
        rcases List.mem_cons.1 he with rfl | he
        · exact ⟨by decide, by decide⟩
        · obtain rfl : e = _ := by simpa using he
          exact ⟨by decide, by decide⟩⟩
    · obtain rfl : l = _ := by simpa using hl
      exact ⟨by simp, fun e he => by
        obtain rfl : e = _ := by simpa using he
        exact ⟨by decide, by decide⟩⟩))
  rw [ex10] at HK
  clear hb hq hk
  go_enter Try.func9, Try.ntmps9
  go_wp2_with fail
  refine HK.out.mono ?_
  rintro e w2 ⟨a', cap', rfl, h8, hb⟩
  have HS2 := Lib.hid (HS1.out.next hb)
  replace HQ := Lib.hid (HQ.out.below hb)
  obtain ⟨b, off, rfl, _, hc⟩ := Ents.at h8 (Below.refl _ _) (show 0 < [dE ⟨#[47, 97]⟩].length by simp)
  have c0 := hc.c0
  have c1 := hc.c1
  have c2 := hc.c2
  have e0 := HQ.out.c0
  have e1 := HQ.out.c1
  have e2 := HQ.out.c2
  simp only [List.getElem_cons_zero, dE, Nat.zero_mul, Nat.add_zero] at c0 c1 c2
  clear hb h8 hc hV
  go_wp2_with fail
  refine wp_region_old (by kernel_rfl) (by kernel_rfl) ?_
  repeat (go_big_quiet_step (fail))
  refine wpQuiet_nil ?_
  intro w3 hb
  have HS3 := Lib.hid (HS2.out.old hb)
  clear hb
  go_wp2
  go_ret
  exact ⟨by first | rfl | simp, HS3.out.below⟩
end Go.Proofs.Ytkannambildnoaa
