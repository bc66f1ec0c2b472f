/-
  The law CodeBack, walked: for every list of numbers and every list of texts it returns true and changes nothing that was there. Condition: the lists lie in memory.
-/
import Derived.Test.YtnoihgdnpdnknaaDoorS4Left
import Derived.Test.YtnoihgdnpdnknaaDoorRowOf
namespace Go.Proofs.YtnoihgdnpdnknaaDoor
open Go.RowKit

/-- The lowest 62 bits. -/
def low (z : Int) : Nat := (bits .and .i64 z 4611686018427387903).toNat
theorem low_eq (z : Int) : bits .and .i64 z 4611686018427387903 = (low z : Int) := by
  obtain ⟨x, hx, _⟩ := low62 z
  unfold low
  rw [hx]
  rfl
theorem low_lt (z : Int) : low z < 4611686018427387904 := by
  obtain ⟨x, hx, h⟩ := low62 z
  unfold low
  rw [hx]
  exact h
/-- The bytes of numbers, of texts, one behind the other. -/
def encN (l : List Int) : List UInt8 := l.flatMap fun z => dg (low z)
def encS (l : List ByteArray) : List UInt8 := l.flatMap fun t => dg t.size ++ t.data.toList
theorem encN_nil : encN [] = [] := rfl
theorem encS_nil : encS [] = [] := rfl
theorem encN_cons (z : Int) (l : List Int) : encN (z :: l) = dg (low z) ++ encN l := by simp [encN]
theorem encS_cons (t : ByteArray) (l : List ByteArray) : encS (t :: l) = dg t.size ++ (t.data.toList ++ encS l) := by simp [encS]
theorem encN_snoc (l : List Int) (z : Int) : encN (l ++ [z]) = encN l ++ dg (low z) := by simp [encN]
theorem encS_snoc (l : List ByteArray) (t : ByteArray) : encS (l ++ [t]) = encS l ++ (dg t.size ++ t.data.toList) := by simp [encS]
theorem encN_len : ∀ l : List Int, (encN l).length ≤ 9 * l.length
  | [] => by simp [encN]
  | z :: l => by
    rw [encN_cons, List.length_append, List.length_cons]
    have h1 := encN_len l
    have h2 := dg_nine (n := low z) (by have := low_lt z; omega)
    omega
theorem encS_len : ∀ l : List ByteArray, (∀ t ∈ l, t.size ≤ 2000) → (encS l).length ≤ 2009 * l.length
  | [], _ => by simp [encS]
  | t :: l, h => by
    rw [encS_cons, List.length_append, List.length_append, List.length_cons]
    have h1 := encS_len l fun u hu => h u (List.mem_cons_of_mem _ hu)
    have h3 := h t List.mem_cons_self
    have h2 := dg_nine (n := t.size) (by omega)
    have h4 := Lib.size_eq t
    omega

set_option maxRecDepth 10000 in
set_option maxHeartbeats 2000000 in
theorem back_long (aL : Option Addr) (capL : Nat) (L : List Int) (aT : Option Addr) (capT : Nat) (T : List ByteArray) (h : 60 < L.length ∨ 60 < T.length) (w : World) :
    Calls Tryd.prog 3 #[.slice aL L.length capL, .slice aT T.length capT] w fun e w' => e = .returned (.bool true) ∧ Below w.heap.size w w' := by
  by_cases h1 : 60 < L.length
  · have h2 : (60 : Int) < (L.length : Int) := by omega
    clear h
    go_enter Tryd.func3, Tryd.ntmps3
    go_wp2_with fail
    refine (awake_any _).mono ?_
    rintro e w1 ⟨rfl, hb⟩
    have HB := Lib.hid hb
    clear hb
    go_wp2_with fail
    refine (awake_any _).mono ?_
    rintro e w2 ⟨rfl, hb⟩
    have HB2 := Lib.hid (HB.out.trans (hb.mono HB.out.size))
    clear hb
    go_wp2
    go_ret
    exact ⟨rfl, HB2.out⟩
  · have h2 : ¬ (60 : Int) < (L.length : Int) := by omega
    have h3 : (60 : Int) < (T.length : Int) := by omega
    clear h
    go_enter Tryd.func3, Tryd.ntmps3
    go_wp2_with fail
    refine (awake_any _).mono ?_
    rintro e w1 ⟨rfl, hb⟩
    have HB := Lib.hid hb
    clear hb
    go_wp2_with fail
    refine (awake_any _).mono ?_
    rintro e w2 ⟨rfl, hb⟩
    have HB2 := Lib.hid (HB.out.trans (hb.mono HB.out.size))
    clear hb
    go_wp2
    go_ret
    exact ⟨rfl, HB2.out⟩

set_option maxRecDepth 10000 in
set_option maxHeartbeats 8000000 in
theorem back_short (aL : Option Addr) (capL : Nat) (L : List Int) (aT : Option Addr) (capT : Nat) (T : List ByteArray) (hl : L.length ≤ 60) (ht : T.length ≤ 60) (w : World) (hrL : RowOf (Value.int .i64) w aL capL L) (hrT : RowOf Value.string w aT capT T) :
    Calls Tryd.prog 3 #[.slice aL L.length capL, .slice aT T.length capT] w fun e w' => e = .returned (.bool true) ∧ Below w.heap.size w w' := by
  have HRL := Lib.hid hrL
  have HRT := Lib.hid hrT
  obtain ⟨N, hN⟩ : ∃ N, L.length = N := ⟨_, rfl⟩
  obtain ⟨M, hM⟩ : ∃ M, T.length = M := ⟨_, rfl⟩
  rw [hN, hM]
  rw [hN] at hl
  rw [hM] at ht
  have HN := Lib.hid hN
  have HM := Lib.hid hM
  have h1 : ¬ (60 : Int) < (N : Int) := by omega
  have h2 : ¬ (60 : Int) < (M : Int) := by omega
  clear hN hM hrL hrT
  go_enter Tryd.func3, Tryd.ntmps3
  go_wp2_with fail
  refine (awake_any _).mono ?_
  rintro e w1 ⟨rfl, hb⟩
  have HB1 := Lib.hid hb
  clear hb
  go_wp2
  clear h1 h2
  go_loopg [5, 6] N (fun g vs vi wx => ∃ (k : Nat) (s : ByteArray), vs = .string s ∧ vi = .int .i64 (k : Int) ∧ k + g = N ∧ Hid (s.data.toList = encN (L.take k) ∧ Below w.heap.size w wx))
  case atStart => exact ⟨0, ⟨#[]⟩, rfl, rfl, by omega, rfl, HB1.out⟩
  case round =>
    obtain ⟨k, s, rfl, rfl, hk, HR⟩ := hrel
    by_cases hlt : k < N
    · have hlt' : (k : Int) < (N : Int) := by omega
      obtain ⟨b, off, z, rfl, hc, htk, _⟩ := HRL.out.at HR.out.2 (k := k) (by have := HN.out; omega)
      have hx := low_eq z
      have HX := Lib.hid (low_lt z)
      have hss : s.size ≤ 540 := by
        have h3 := encN_len (L.take k)
        rw [← HR.out.1, ← Lib.size_eq, List.length_take] at h3
        omega
      have HT := Lib.hid htk
      clear htk
      have hw : IntKind.i64.wrap ((k : Int) + 1) = (k : Int) + 1 := IntWalk.i64_in _ (by omega)
      go_wp2_with fail
      refine (num_any (low z) (by have := HX.out; omega) _).mono ?_
      rintro e w2 ⟨rfl, hb⟩
      have HB2 := Lib.hid (HR.out.2.trans (hb.mono HR.out.2.size))
      have h9 := numB_size_nine (n := low z) (by have := HX.out; omega)
      have hsum : ¬ 9223372036854775807 < s.size + (numB (low z)).size := by omega
      have HNX := Lib.hid (show (s ++ numB (low z)).data.toList = encN (L.take (k + 1)) by rw [ByteArray.data_append, Array.toList_append, numB_list, HT.out, encN_snoc, HR.out.1])
      clear hb hc hx
      go_wp2
      go_roundg (gk - 1)
      case measure => omega
      case rel => exact ⟨k + 1, _, rfl, by simp, by omega, HNX.out, HB2.out⟩
    · have hlt' : ¬ (k : Int) < (N : Int) := by omega
      have HS := Lib.hid (show s.data.toList = encN L by have h3 := HR.out.1; rwa [List.take_of_length_le (by have := HN.out; omega)] at h3)
      have HB2 := Lib.hid HR.out.2
      clear HR
      go_wp2
      clear hlt hk
      go_loopg [5, 7] M (fun g vs vi wx => ∃ (k : Nat) (s : ByteArray), vs = .string s ∧ vi = .int .i64 (k : Int) ∧ k + g = M ∧ Hid (s.data.toList = encN L ++ encS (T.take k) ∧ (∀ t ∈ T.take k, t.size ≤ 2000) ∧ Below w.heap.size w wx))
      case atStart => exact ⟨0, s, rfl, rfl, by omega, by rw [List.take_zero, encS_nil, List.append_nil]; exact HS.out, by simp, HB2.out⟩
      case round =>
        clear HS HB2
        obtain ⟨k, s, rfl, rfl, hk, HR⟩ := hrel
        have hss : s.size ≤ 540 + 2009 * k := by
          have h3 := encN_len L
          have h4 := encS_len (T.take k) HR.out.2.1
          have h5 := congrArg List.length HR.out.1
          rw [← Lib.size_eq, List.length_append] at h5
          rw [List.length_take] at h4
          have := HN.out
          omega
        by_cases hlt : k < M
        · have hlt' : (k : Int) < (M : Int) := by omega
          obtain ⟨b, off, x, rfl, hc, htk, _⟩ := HRT.out.at HR.out.2.2 (k := k) (by have := HM.out; omega)
          have HT := Lib.hid htk
          clear htk
          by_cases hx : 2000 < x.size
          · have hx' : (2000 : Int) < (x.size : Int) := by omega
            go_wp2
            go_ret
            exact ⟨rfl, HR.out.2.2⟩
          · have hx' : ¬ (2000 : Int) < (x.size : Int) := by omega
            have hw : IntKind.i64.wrap ((k : Int) + 1) = (k : Int) + 1 := IntWalk.i64_in _ (by omega)
            go_wp2_with fail
            refine (str_any x (by omega) _).mono ?_
            rintro e w2 ⟨rfl, hb⟩
            have HB2 := Lib.hid (HR.out.2.2.trans (hb.mono HR.out.2.2.size))
            have h9 := dg_nine (n := x.size) (by omega)
            have hsz := strB_size x
            have hsum : ¬ 9223372036854775807 < s.size + (strB x).size := by omega
            have HNX := Lib.hid (show (s ++ strB x).data.toList = encN L ++ encS (T.take (k + 1)) by rw [ByteArray.data_append, Array.toList_append, strB_list, HT.out, encS_snoc, HR.out.1, List.append_assoc])
            have HAL := Lib.hid (show ∀ t ∈ T.take (k + 1), t.size ≤ 2000 by
              intro t ht
              rw [HT.out] at ht
              rcases List.mem_append.1 ht with ht | ht
              · exact HR.out.2.1 t ht
              · rw [List.mem_singleton.1 ht]; omega)
            clear hb hc hsz
            go_wp2
            go_roundg (gk - 1)
            case measure => omega
            case rel => exact ⟨k + 1, _, rfl, by simp, by omega, HNX.out, HAL.out, HB2.out⟩
        · have hlt' : ¬ (k : Int) < (M : Int) := by omega
          have HS := Lib.hid (show s.data.toList = encN L ++ encS T by have h3 := HR.out.1; rwa [List.take_of_length_le (by have := HM.out; omega)] at h3)
          have HAL := Lib.hid (show ∀ t ∈ T, t.size ≤ 2000 by have h3 := HR.out.2.1; rwa [List.take_of_length_le (by have := HM.out; omega)] at h3)
          have HB2 := Lib.hid HR.out.2.2
          have HSZ := Lib.hid (show s.size ≤ 200000 by omega)
          clear HR hss hk hlt
          go_wp2_with fail
          refine (new_any _ _).mono ?_
          rintro e w3 ⟨rfl, hr, hb⟩
          have HB3 := Lib.hid (HB2.out.trans (hb.mono HB2.out.size))
          have HP := Lib.hid hr
          have HW := Lib.hid HB2.out.size
          clear hb hr hlt'
          generalize wr.heap.size = p at *
          go_wp2
          go_loopg [9] N (fun g vi wx => ∃ (k : Nat), vi = .int .i64 (k : Int) ∧ k + g = N ∧ Hid ((∃ s, Rd wx p s ∧ s.data.toList = encN (L.drop k) ++ encS T ∧ s.size ≤ 200000) ∧ Below w.heap.size w wx))
          case atStart => exact ⟨0, rfl, by omega, ⟨s, HP.out, by rw [List.drop_zero]; exact HS.out, HSZ.out⟩, HB3.out⟩
          case round =>
            clear HP HS HB3 HSZ
            obtain ⟨k, rfl, hk, HR⟩ := hrel
            obtain ⟨⟨s, hrd, hsl, hsz⟩, hbw⟩ := HR.out
            have HP := Lib.hid hrd
            have HSL := Lib.hid hsl
            have HSZ := Lib.hid hsz
            have HB3 := Lib.hid hbw
            clear HR hrd hsl hsz hbw
            by_cases hlt : k < N
            · have hlt' : (k : Int) < (N : Int) := by omega
              obtain ⟨b, off, z, rfl, hc, _, hdk⟩ := HRL.out.at HB3.out (k := k) (by have := HN.out; omega)
              have HX := Lib.hid (low_lt z)
              have hw : IntKind.i64.wrap ((k : Int) + 1) = (k : Int) + 1 := IntWalk.i64_in _ (by omega)
              have HL := Lib.hid (show s.data.toList = dg (low z) ++ (encN (L.drop (k + 1)) ++ encS T) by rw [HSL.out, hdk, encN_cons, List.append_assoc])
              have HBZ := Lib.hid (show (bs (encN (L.drop (k + 1)) ++ encS T)).size ≤ 200000 by
                have h3 := congrArg List.length HL.out
                have h4 := HSZ.out
                rw [← Lib.size_eq, List.length_append] at h3
                rw [bs_size]
                omega)
              have HDK := Lib.hid hdk
              clear hdk hc
              go_wp2_with fail
              refine (rNum_good (low z) _ s _ HL.out (by have := HSZ.out; omega) (by have := HX.out; omega) (by have := HX.out; omega) p _ HP.out).mono ?_
              rintro e w4 ⟨rfl, hb⟩
              have HP2 := Lib.hid (HP.out.next hb)
              have HB4 := Lib.hid (below_next HB3.out HW.out HB3.out.size hb)
              clear hb
              go_wp2_with fail
              refine (codeNil _).mono ?_
              rintro e w5 ⟨rfl, rfl⟩
              obtain ⟨hc⟩ : Nonempty (w4.cell? ⟨b, off + k, none⟩ = some (.int .i64 z)) := by
                obtain ⟨b', off', z', hbo, hc, _, hdk⟩ := HRL.out.at HB4.out (k := k) (by have := HN.out; omega)
                rw [HDK.out] at hdk
                injection hdk with hz _
                injection hbo with hbo
                injection hbo with hb1 hb2
                subst hb1 hb2 hz
                exact ⟨hc⟩
              have hx := low_eq z
              go_wp2
              go_roundg (gk - 1)
              case measure => omega
              case rel => exact ⟨k + 1, by simp, by omega, ⟨_, HP2.out, bs_list _, HBZ.out⟩, HB4.out⟩
            · have hlt' : ¬ (k : Int) < (N : Int) := by omega
              have HSL2 := Lib.hid (show s.data.toList = encS T by have h3 := HSL.out; rwa [List.drop_of_length_le (by have := HN.out; omega), encN_nil, List.nil_append] at h3)
              go_wp2
              clear hlt hk HSL
              go_loopg [12] M (fun g vi wx => ∃ (k : Nat), vi = .int .i64 (k : Int) ∧ k + g = M ∧ Hid ((∃ s, Rd wx p s ∧ s.data.toList = encS (T.drop k) ∧ s.size ≤ 200000) ∧ Below w.heap.size w wx))
              case atStart => exact ⟨0, rfl, by omega, ⟨s, HP.out, by rw [List.drop_zero]; exact HSL2.out, HSZ.out⟩, HB3.out⟩
              case round =>
                clear HP HSL2 HB3 HSZ
                obtain ⟨k, rfl, hk, HR⟩ := hrel
                obtain ⟨⟨s, hrd, hsl, hsz⟩, hbw⟩ := HR.out
                have HP := Lib.hid hrd
                have HSL := Lib.hid hsl
                have HSZ := Lib.hid hsz
                have HB3 := Lib.hid hbw
                clear HR hrd hsl hsz hbw
                by_cases hlt : k < M
                · have hlt' : (k : Int) < (M : Int) := by omega
                  obtain ⟨b, off, x, rfl, hc, _, hdk⟩ := HRT.out.at HB3.out (k := k) (by have := HM.out; omega)
                  have HX := Lib.hid (HAL.out x (by
                    have h3 : x ∈ T.drop k := by rw [hdk]; exact List.mem_cons_self
                    exact List.mem_of_mem_drop h3))
                  have hw : IntKind.i64.wrap ((k : Int) + 1) = (k : Int) + 1 := IntWalk.i64_in _ (by omega)
                  have HL := Lib.hid (show s.data.toList = dg x.size ++ (x.data.toList ++ encS (T.drop (k + 1))) by rw [HSL.out, hdk, encS_cons])
                  have HBZ := Lib.hid (show (bs (encS (T.drop (k + 1)))).size ≤ 200000 by
                    have h3 := congrArg List.length HL.out
                    have h4 := HSZ.out
                    rw [← Lib.size_eq, List.length_append, List.length_append] at h3
                    rw [bs_size]
                    omega)
                  have HDK := Lib.hid hdk
                  clear hdk hc
                  go_wp2_with fail
                  refine (rStr_good x _ s _ HL.out (by have := HSZ.out; omega) (by have := HX.out; omega) p _ HP.out).mono ?_
                  rintro e w4 ⟨rfl, hb⟩
                  have HP2 := Lib.hid (HP.out.next hb)
                  have HB4 := Lib.hid (below_next HB3.out HW.out HB3.out.size hb)
                  clear hb
                  go_wp2_with fail
                  refine (codeNil _).mono ?_
                  rintro e w5 ⟨rfl, rfl⟩
                  obtain ⟨hc⟩ : Nonempty (w4.cell? ⟨b, off + k, none⟩ = some (.string x)) := by
                    obtain ⟨b', off', z', hbo, hc, _, hdk⟩ := HRT.out.at HB4.out (k := k) (by have := HM.out; omega)
                    rw [HDK.out] at hdk
                    injection hdk with hz _
                    injection hbo with hbo
                    injection hbo with hb1 hb2
                    subst hb1 hb2 hz
                    exact ⟨hc⟩
                  have hxx : (x.toList == x.toList) = true := by simp
                  go_wp2
                  go_roundg (gk - 1)
                  case measure => omega
                  case rel => exact ⟨k + 1, by simp, by omega, ⟨_, HP2.out, bs_list _, HBZ.out⟩, HB4.out⟩
                · have hlt' : ¬ (k : Int) < (M : Int) := by omega
                  have hs0 : s.size = 0 := by
                    have h3 := HSL.out
                    rw [List.drop_of_length_le (by have := HM.out; omega), encS_nil] at h3
                    rw [Lib.size_eq, h3]
                    rfl
                  go_wp2_with fail
                  refine (left_any _ p _ HP.out).mono ?_
                  rintro e w6 ⟨rfl, rfl⟩
                  go_wp2
                  go_ret
                  exact ⟨rfl, HB3.out⟩
theorem back_all (aL : Option Addr) (capL : Nat) (L : List Int) (aT : Option Addr) (capT : Nat) (T : List ByteArray) (w : World) (hrL : RowOf (Value.int .i64) w aL capL L) (hrT : RowOf Value.string w aT capT T) :
    Calls Tryd.prog 3 #[.slice aL L.length capL, .slice aT T.length capT] w fun e w' => e = .returned (.bool true) ∧ Below w.heap.size w w' := by
  by_cases h : 60 < L.length ∨ 60 < T.length
  · exact back_long aL capL L aT capT T h w
  · exact back_short aL capL L aT capT T (by omega) (by omega) w hrL hrT
end Go.Proofs.YtnoihgdnpdnknaaDoor
