/-
  The contract of package fold's laid: what comes of a right layer that is laid over a tree. Conditions: both lie in memory; a tree of at most 1000 entries.
-/
import Derived.Test.YtemnlolkmjdefaaGreatDoorS10GClo
import Derived.Test.YtemnlolkmjdefaaGreatDoorS10Srt
import Derived.Test.YtemnlolkmjdefaaGreatDoorS10Fn
namespace Go.Proofs.YtemnlolkmjdefaaGreatDoor
open Go.RowKit

/-- A greater bound: an entry at the end of a slice that a call made itself, the entry in a new block. -/
theorem wl_putG {w : World} {ops : Array Oper} {rest : List Oper} {o : Oper} {a : Act} {Q : Exit → Act → World → Prop} (hgd : o.guard = none) (s x : Operand)
    (ho : o.op = .call { callee := .builtin .append, args := #[s, x], argTypes := #[38, 38] }) (B : Nat) (v : Value) (l : List Ent) (e : Ent) (hs : a.eval s = v) (hown : OwnE w B v l) (hB : B ≤ w.heap.size)
    (M : Nat) (hx : a.eval x = .slice (some ⟨M, 0, none⟩) 1 1) (hM : EnAt w M e.1 e.2.1 e.2.2) (hl : l.length ≤ 100000)
    (h : ∀ v' w', OwnE w' B v' (l ++ [e]) → w.grownBy w' v.ownBlock → wpList Tryz.prog ops Q rest (a.put o.dst v') w') : wpList Tryz.prog ops Q (o :: rest) a w := by
  obtain ⟨ie, hie, hz, hsz, hby⟩ := info_parts infoEn
  refine wl_append_any hgd s x 38 ho B 41 ie _ 3 40 Tryz.underlying38 hie hz hsz hby rfl (by decide) v l.length _ hs hown (some ⟨M, 0, none⟩) 1 1 (enc e) hx rfl ?_ (fun e => by cases e) ?_ (by unfold maxLen; omega) (by omega) hB ?_
  · intro ad e1 j u hu
    cases e1
    rw [Addr.add_lit]
    exact hM.range j u hu
  · intro u hu
    rcases List.mem_cons.1 hu with rfl | hu
    · rfl
    rcases List.mem_cons.1 hu with rfl | hu
    · rfl
    rcases List.mem_cons.1 hu with rfl | hu
    · rfl
    cases hu
  · intro v' w' h1 h2
    refine h v' w' ?_ h2
    unfold OwnE
    rw [List.length_append, List.flatMap_append]
    simpa using h1
set_option maxRecDepth 10000 in
set_option maxHeartbeats 4000000 in
theorem laid10 (t l : List Ent) (a : Option Addr) (cap : Nat) (a2 : Option Addr) (cap2 : Nat) (w : World) (ht : Ents w a cap t) (hl : Ents w a2 cap2 l) (hT : TR t) (hR : RightL l) (hn : t.length ≤ 1000) :
    Calls Tryz.prog 36 #[.slice a t.length cap, .slice a2 l.length cap2] w fun e w' => ∃ a' cap', e = .returned (.slice a' (over t l).length cap') ∧ Ents w' a' cap' (over t l) ∧ Below w.heap.size w w' := by
  have HC := Lib.hid (gone10 l a2 cap2 w hl (sm_right hR))
  have HT := Lib.hid hT
  have HR := Lib.hid hR
  have HN := Lib.hid hn
  have HET := Lib.hid ht
  have HEL := Lib.hid hl
  have HPS := Lib.hid (fun c hp hs => pile_sorted (c := c) hT.1.2.1 hR.2.2.1 hR.2.1 hp hs)
  have HPL := Lib.hid (pile_len t l)
  clear ht hl hT hR hn
  go_enter Tryz.func36, Tryz.ntmps36
  go_wp2_with fail
  refine HC.out.mono ?_
  rintro e w1 ⟨P, rfl, hg, hb⟩
  have HB1 := Lib.hid hb
  have HG := Lib.hid hg
  replace HET := Lib.hid (RowN.below HET.out hb)
  replace HEL := Lib.hid (RowN.below HEL.out hb)
  clear hg hb
  go_wp2
  go_loopg [6, 15] t.length (fun g v i wx => ∃ (k : Nat), i = .int .i64 (k : Int) ∧ k + g = t.length ∧ Hid (OwnE wx w1.heap.size v (kept (t.take k) l)) ∧ Hid (Below w1.heap.size w1 wx))
  case atStart => exact ⟨0, rfl, by omega, ownE_nil _ _, Below.refl _ _⟩
  case round =>
    obtain ⟨k, rfl, hk, HO, HB⟩ := hrel
    have hw : IntKind.i64.wrap ((k : Int) + 1) = (k : Int) + 1 := IntWalk.i64_in _ (by have := HN.out; omega)
    by_cases hlt : k < t.length
    · have hlt' : (k : Int) < (t.length : Int) := by omega
      obtain ⟨b, off, rfl, hb, hc⟩ := Ents.at HET.out HB.out hlt
      have HX := Lib.hid (HT.out.1.1 _ (List.getElem_mem hlt))
      have HK := Lib.hid (show kept (t.take (k + 1)) l = if goes l t[k] = true then kept (t.take k) l else kept (t.take k) l ++ [t[k]] by rw [take_sn t k hlt, kept_snoc])
      have HLN := Lib.hid (show (kept (t.take k) l).length ≤ 100000 by
        have h1 : (kept (t.take k) l).length ≤ (t.take k).length := List.length_filter_le _ _
        have := HN.out
        rw [List.length_take] at h1
        omega)
      obtain ⟨x, hx⟩ : ∃ x, t[k] = x := ⟨_, rfl⟩
      rw [hx] at hc HX HK
      have c0 := hc.c0
      have c1 := hc.c1
      have c2 := hc.c2
      obtain ⟨W, hW⟩ : ∃ W, wr.alloc (.cells #[.string x.1, .int .i64 x.2.1, .string x.2.2] 41) = W := ⟨_, rfl⟩
      obtain ⟨M, hM⟩ : ∃ M, wr.heap.size = M := ⟨_, rfl⟩
      have hbW : Below wr.heap.size wr W := by rw [← hW]; exact (Below.refl _ _).alloc (Nat.le_refl _) _
      have hq : EnAt W M x.1 x.2.1 x.2.2 := by rw [← hW, ← hM]; exact enAt_new _ _ _ _
      have HQ := Lib.hid hq
      have q0 := hq.c0
      have q1 := hq.c1
      have q2 := hq.c2
      have HBW := Lib.hid (HB.out.trans (hbW.mono HB.out.size))
      have HOW := Lib.hid (HO.out.below hbW)
      have HCC := Lib.hid (gclo10 l w.heap.size P x W (HG.out.below HBW.out) HR.out.2.2.1 HR.out.2.1 HX.out)
      clear hc hx hb hbW hq
      go_wp2_with fail
      refine HCC.out.mono ?_
      rintro e w2 ⟨rfl, hb⟩
      have HB2 := Lib.hid (HBW.out.trans (hb.mono HBW.out.size))
      have HO2 := Lib.hid (HOW.out.below hb)
      have HQ2 := Lib.hid (HQ.out.below hb)
      clear hb q0 q1 q2
      cases hgo : goes l x with
      | true =>
        rw [hgo, if_pos rfl] at HK
        clear hgo
        go_wp2
        go_roundg (gk - 1)
        case measure => omega
        case rel => exact ⟨k + 1, by simp, by omega, by rw [HK.out]; exact HO2.out, HB2.out⟩
      | false =>
        rw [hgo, if_neg (by simp)] at HK
        clear hgo
        have q0 := HQ2.out.c0
        have q1 := HQ2.out.c1
        have q2 := HQ2.out.c2
        go_wp2_with (at_builtin; refine Stopped.go ?_)
        unfold Stopped
        refine wl_putG (by rfl) _ _ (by rfl) w1.heap.size u6 _ x (by rfl) (HO2.out.below ((Below.refl _ _).alloc (Nat.le_refl _) _)) (by have := HB2.out.size; simp; omega) w2.heap.size (by rfl) (enAt_new w2 x.1 x.2.1 x.2.2) HLN.out ?_
        intro v6 w6 ho hg
        have HB6 := Lib.hid ((HB2.out.alloc HB2.out.size (.cells #[.string x.1, .int .i64 x.2.1, .string x.2.2] 41)).grown hg (by have := HB2.out.size; simp; omega) (fun k hk => (ownE_blk HO2.out k hk).1))
        have HO6 := Lib.hid ho
        clear ho hg
        go_wp2
        go_roundg (gk - 1)
        case measure => omega
        case rel => exact ⟨k + 1, by simp, by omega, by rw [HK.out]; exact HO6.out, HB6.out⟩
    · have hlt' : ¬ (k : Int) < (t.length : Int) := by omega
      have HK := Lib.hid (show kept (t.take k) l = kept t l by rw [List.take_of_length_le (by omega)])
      rw [HK.out] at HO
      go_wp2
      clear hw hlt hlt' hk HK
      go_loopg [6, 30] l.length (fun g v i wx => ∃ (k : Nat), i = .int .i64 (k : Int) ∧ k + g = l.length ∧ Hid (OwnE wx w1.heap.size v (kept t l ++ news (l.take k))) ∧ Hid (Below w1.heap.size w1 wx))
      case atStart => exact ⟨0, rfl, by omega, by simpa [news, Hid] using HO.out, HB.out⟩
      case round =>
        obtain ⟨j, rfl, hj, HO3, HB3⟩ := hrel
        have hw : IntKind.i64.wrap ((j : Int) + 1) = (j : Int) + 1 := IntWalk.i64_in _ (by have := HR.out.1; omega)
        by_cases hlt : j < l.length
        · have hlt' : (j : Int) < (l.length : Int) := by omega
          obtain ⟨b, off, rfl, hb, hc⟩ := Ents.at HEL.out HB3.out hlt
          have HX := Lib.hid (HR.out.2.1 _ (List.getElem_mem hlt))
          have HK := Lib.hid (show news (l.take (j + 1)) = if l[j].2.1 = 3 then news (l.take j) else news (l.take j) ++ [sh l[j]] by rw [take_sn l j hlt, news_snoc])
          have HLN := Lib.hid (show (kept t l ++ news (l.take j)).length ≤ 100000 by
            have h1 : (kept t l).length ≤ t.length := List.length_filter_le _ _
            have h2 : (news (l.take j)).length ≤ (l.take j).length := by unfold news; rw [List.length_map]; exact List.length_filter_le _ _
            have := HN.out
            have := HR.out.1
            rw [List.length_take] at h2
            rw [List.length_append]
            omega)
          obtain ⟨x, hx⟩ : ∃ x, l[j] = x := ⟨_, rfl⟩
          rw [hx] at hc HX HK
          have c0 := hc.c0
          have c1 := hc.c1
          have c2 := hc.c2
          obtain ⟨W, hW⟩ : ∃ W, wr.alloc (.cells #[.string x.1, .int .i64 x.2.1, .string x.2.2] 41) = W := ⟨_, rfl⟩
          obtain ⟨M, hM⟩ : ∃ M, wr.heap.size = M := ⟨_, rfl⟩
          have hbW : Below wr.heap.size wr W := by rw [← hW]; exact (Below.refl _ _).alloc (Nat.le_refl _) _
          have hq : EnAt W M x.1 x.2.1 x.2.2 := by rw [← hW, ← hM]; exact enAt_new _ _ _ _
          have q0 := hq.c0
          have q1 := hq.c1
          have q2 := hq.c2
          have HBW := Lib.hid (HB3.out.trans (hbW.mono HB3.out.size))
          have HOW := Lib.hid (HO3.out.below hbW)
          clear hc hx hb hbW hq
          by_cases h3 : x.2.1 = 3
          · rw [if_pos h3] at HK
            have g1 : (x.2.1 == 3) = true := by rw [h3]; rfl
            have g2 : (x.2.1 != 3) = false := by rw [h3]; rfl
            clear h3
            go_wp2
            go_roundg (l.length - (j + 1))
            case measure => omega
            case rel => exact ⟨j + 1, by simp, by omega, by rw [HK.out]; exact HOW.out, HBW.out⟩
          · rw [if_neg h3] at HK
            have g1 : (x.2.1 == 3) = false := beq_eq_false_iff_ne.2 h3
            have g2 : (x.2.1 != 3) = true := by rw [bne, g1]; rfl
            have HCC := Lib.hid (shown10 x HX.out h3 W)
            obtain ⟨y, hy⟩ : ∃ y, sh x = y := ⟨_, rfl⟩
            rw [hy] at HCC HK
            clear h3 hy
            go_wp2_with fail
            refine HCC.out.mono ?_
            rintro e w2 ⟨rfl, hb⟩
            have HB2 := Lib.hid (HBW.out.trans (hb.mono HBW.out.size))
            have HO2 := Lib.hid (HOW.out.below hb)
            clear hb q0 q1 q2
            go_wp2_with (at_builtin; refine Stopped.go ?_)
            unfold Stopped
            refine wl_putG (by rfl) _ _ (by rfl) w1.heap.size u6 _ y (by rfl) (HO2.out.below ((Below.refl _ _).alloc (Nat.le_refl _) _)) (by have := HB2.out.size; simp; omega) w2.heap.size (by rfl) (enAt_new w2 y.1 y.2.1 y.2.2) HLN.out ?_
            intro v6 w6 ho hg
            have HB6 := Lib.hid ((HB2.out.alloc HB2.out.size (.cells #[.string y.1, .int .i64 y.2.1, .string y.2.2] 41)).grown hg (by have := HB2.out.size; simp; omega) (fun k hk => (ownE_blk HO2.out k hk).1))
            have HO6 := Lib.hid ho
            clear ho hg
            go_wp2
            go_roundg (l.length - (j + 1))
            case measure => omega
            case rel => exact ⟨j + 1, by simp, by omega, by rw [HK.out, ← List.append_assoc]; exact HO6.out, HB6.out⟩
        · have hlt' : ¬ (j : Int) < (l.length : Int) := by omega
          have HK := Lib.hid (show news (l.take j) = news l by rw [List.take_of_length_le (by omega)])
          rw [HK.out] at HO3
          go_wp2_with fail
          refine (sort10 w1.heap.size u6 _ _ HO3.out HB3.out.size (by have := HPL.out; have := HN.out; have := HR.out.1; omega)).mono ?_
          rintro e w3 ⟨rfl, l', a3, cap3, rfl, hp, hs, hE, hb⟩
          obtain rfl := HPS.out _ hp hs
          have HB4 := Lib.hid (HB1.out.trans ((HB3.out.trans hb).mono HB1.out.size))
          have HE4 := Lib.hid hE
          clear hp hs hE hb
          go_wp2
          go_ret
          exact ⟨a3, cap3, rfl, HE4.out, HB4.out⟩
end Go.Proofs.YtemnlolkmjdefaaGreatDoor
