/-
  What the laws of layer 15 ask, by lists: a layer merged with itself; three layers; a stack with both, and with the one. No condition.
-/
import Derived.Test.YtkclclhmeenncaaDoorPb
import Derived.Test.YtkclclhmeenncaaDoorPd
namespace Go.Proofs.YtkclclhmeenncaaDoor
open Go.RowKit

theorem len_sub15 {t b : List Ent} (hb : Asc b) (ht : Asc t) (h : ∀ e ∈ b, ∃ x ∈ t, pl x = pl e) : b.length ≤ t.length := by
  have nb : (b.map pl).Nodup := List.pairwise_map.2 (hb.imp fun h => lt8_ne h)
  have nt : (t.map pl).Nodup := List.pairwise_map.2 (ht.imp fun h => lt8_ne h)
  have hp : (b.map pl).Perm ((t.map pl).filter fun x => decide (x ∈ b.map pl)) := by
    refine (List.perm_ext_iff_of_nodup nb (nt.filter _)).2 fun x => ?_
    rw [List.mem_filter, decide_eq_true_iff]
    refine ⟨fun hx => ⟨?_, hx⟩, fun hx => hx.2⟩
    obtain ⟨e, he, rfl⟩ := List.mem_map.1 hx
    obtain ⟨y, hy, hye⟩ := h e he
    exact List.mem_map.2 ⟨y, hy, hye⟩
  have h1 := hp.length_eq
  have h2 := List.length_filter_le (fun x => decide (x ∈ b.map pl)) (t.map pl)
  rw [List.length_map] at h1 h2
  omega
/-- A layer merged with itself: no more entries. -/
theorem self_len {l : List Ent} (h : RL l) : (mrg l l).length ≤ l.length := by
  have hA := mrg_asc l (l := l) h.2.1
  refine len_sub15 hA h.2.1 fun e he => ?_
  have h1 := (fnd_some hA).2 ⟨he, rfl⟩
  rw [fnd_mrg' h.2.1 h.2.1] at h1
  cases hf : fnd l (pl e) with
  | some x =>
    obtain ⟨h2, h3⟩ := (fnd_some h.2.1).1 hf
    exact ⟨x, h2, h3⟩
  | none =>
    rw [hf] at h1
    simp [st15] at h1
/-- MergeSame, the first: what is shown. -/
theorem same15 {l : List Ent} (h : RightL l) : twV l l false = (0, mrg l l) ∧ RightL (mrg l l) ∧ fsV [mrg l l] = fsV [l] := by
  have hl := self_len h.2
  have h1 : two15 l l false = mrg l l := if_neg (by simp)
  have hr : RightL (mrg l l) := ⟨by have := h.1; omega, by rw [← h1]; exact rl_two h.2 h.2 false⟩
  refine ⟨?_, hr, ?_⟩
  · rw [tw_ok h h (by rw [h1]; exact hr.1), h1]
  · have e1 : LkOK [mrg l l] := ⟨by simp, fun x hx => by rw [List.mem_singleton.1 hx]; exact hr⟩
    have e2 : LkOK [l] := ⟨by simp, fun x hx => by rw [List.mem_singleton.1 hx]; exact h⟩
    unfold fsV
    rw [if_pos e1, if_pos e2]
    exact mrg_self h.2
/-- .. the second: at the bottom. -/
theorem bottom15 {l high : List Ent} (h : RightL l) (h2 : RightL high) (hn : l.length + high.length ≤ 64) : twV l high true = (0, two15 l high true) ∧ RightL (two15 l high true) ∧ TreeL (two15 l high true) ∧ bot15 (two15 l high true) = two15 l high true ∧ fsV [l, high] = two15 l high true := by
  have hl := two_len l high true
  have hr : RightL (two15 l high true) := ⟨by omega, rl_two h.2 h2.2 true⟩
  have e1 : two15 l high true = bot15 (mrg l high) := if_pos rfl
  have hm : RL (mrg l high) := rl_mrg h.2 _ high rfl h2.2
  have ht : TR (two15 l high true) := by rw [e1]; exact tr_bot hm
  refine ⟨tw_ok h h2 hr.1, hr, ⟨by have := hr.1; omega, ht⟩, bot_tree ht, ?_⟩
  have hok : LkOK [l, high] := ⟨by simp, fun x hx => by
    rcases List.mem_cons.1 hx with rfl | hx
    · exact h
    · rw [List.mem_singleton.1 hx]; exact h2⟩
  unfold fsV
  rw [if_pos hok]
  have h9 := stk_two15 (a := []) (c := []) (by simp) h.2 h2.2 true (fun _ => rfl)
  simp only [List.nil_append, List.append_nil] at h9
  rw [h9]
  exact over_nil ht
/-- MergeThree: whichever two are first. -/
theorem three15 {a b c : List Ent} (ha : RightL a) (hb : RightL b) (hc : RightL c) (hn : a.length + b.length + c.length ≤ 64) (bot : Bool) :
    twV a b bot = (0, two15 a b bot) ∧ RightL (two15 a b bot) ∧ twV b c false = (0, two15 b c false) ∧ RightL (two15 b c false) ∧ twV (two15 a b bot) c bot = (0, two15 (two15 a b bot) c bot) ∧ twV a (two15 b c false) bot = (0, two15 (two15 a b bot) c bot) := by
  have l1 := two_len a b bot
  have l2 := two_len b c false
  have l3 := two_len (two15 a b bot) c bot
  have l4 := two_len a (two15 b c false) bot
  have r1 : RightL (two15 a b bot) := ⟨by omega, rl_two ha.2 hb.2 bot⟩
  have r2 : RightL (two15 b c false) := ⟨by omega, rl_two hb.2 hc.2 false⟩
  have he : two15 a (two15 b c false) bot = two15 (two15 a b bot) c bot := by
    cases bot with
    | true => exact (bot_assoc ha.2 hb.2 hc.2).symm
    | false =>
      have e : ∀ x y : List Ent, two15 x y false = mrg x y := fun x y => if_neg (by simp)
      rw [e, e, e, e]
      exact (mrg_assoc ha.2.2.1 hb.2.2.1 hc.2.2.1).symm
  refine ⟨tw_ok ha hb r1.1, r1, tw_ok hb hc r2.1, r2, tw_ok r1 hc (by omega), ?_⟩
  rw [tw_ok ha r2 (by omega), he]
/-- MergeShows: with both, with the one. -/
theorem shows15 {S T : List (List Ent)} {low high : List Ent} {b : Bool} (hn : S.length + T.length ≤ 7) (hb : b = true ↔ S = []) (h0 : (twV low high b).1 = 0) (p : List UInt8) :
    fsV (S ++ [low, high] ++ T) = fsV (S ++ [(twV low high b).2] ++ T) ∧ (lkV (S ++ [low, high] ++ T) p).1 = (lkV (S ++ [(twV low high b).2] ++ T) p).1 ∧ (lkV (S ++ [low, high] ++ T) p).2.1 = (lkV (S ++ [(twV low high b).2] ++ T) p).2.1 := by
  obtain ⟨h1, h2, h3, h4⟩ := tw_zero h0
  rw [h3]
  by_cases hall : (∀ l ∈ S, RightL l) ∧ ∀ l ∈ T, RightL l
  · have o1 : LkOK (S ++ [low, high] ++ T) := ⟨by simp; omega, fun l hl => by
      rcases List.mem_append.1 hl with hl | hl
      · rcases List.mem_append.1 hl with hl | hl
        · exact hall.1 l hl
        · rcases List.mem_cons.1 hl with rfl | hl
          · exact h1
          · rw [List.mem_singleton.1 hl]; exact h2
      · exact hall.2 l hl⟩
    have o2 : LkOK (S ++ [two15 low high b] ++ T) := ⟨by simp; omega, fun l hl => by
      rcases List.mem_append.1 hl with hl | hl
      · rcases List.mem_append.1 hl with hl | hl
        · exact hall.1 l hl
        · rw [List.mem_singleton.1 hl]; exact h4
      · exact hall.2 l hl⟩
    have hs := stk_two15 hall.1 (c := T) h1.2 h2.2 b hb.1
    refine ⟨by unfold fsV; rw [if_pos o1, if_pos o2, hs], ?_⟩
    rw [lkV_ok o1, lkV_ok o2]
    by_cases hp : isP p
    · obtain ⟨q1, q2, _⟩ := look_all o1.2 p hp
      obtain ⟨r1, r2, _⟩ := look_all o2.2 p hp
      rw [q1, q2, r1, r2, hs]
      exact ⟨rfl, rfl⟩
    · rw [atS_bad hp, atS_bad hp]
      exact ⟨rfl, rfl⟩
  · have n1 : ¬ LkOK (S ++ [low, high] ++ T) := fun h => hall ⟨fun l hl => h.2 l (by simp [hl]), fun l hl => h.2 l (by simp [hl])⟩
    have n2 : ¬ LkOK (S ++ [two15 low high b] ++ T) := fun h => hall ⟨fun l hl => h.2 l (by simp [hl]), fun l hl => h.2 l (by simp [hl])⟩
    refine ⟨by unfold fsV; rw [if_neg n1, if_neg n2], ?_⟩
    rw [lkV_bad n1, lkV_bad n2]
    exact ⟨rfl, rfl⟩
/-- What a refusal means. -/
theorem refused15 {low high : List Ent} {b : Bool} (h : (twV low high b).1 ≠ 0) : (twV low high b).1 = 16 ∨ (twV low high b).1 = 9 ∧ 64 < low.length + high.length := by
  rcases tw_cases low high b with ⟨_, e⟩ | ⟨_, _, hl, e⟩ | ⟨_, _, _, e⟩
  · rw [e]; exact .inl rfl
  · rw [e]
    refine .inr ⟨rfl, ?_⟩
    have := two_len low high b
    omega
  · rw [e] at h
    exact absurd rfl h
end Go.Proofs.YtkclclhmeenncaaDoor
