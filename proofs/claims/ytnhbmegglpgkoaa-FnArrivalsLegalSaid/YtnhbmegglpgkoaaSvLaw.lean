/- The walks of laws.FnServersValid and laws.FnArrivalsLegal, for whatever code. Condition: the argument is a slice of bytes. -/
import Derived.Test.YtnhbmegglpgkoaaSvImpl
import Derived.Test.YtnhbmegglpgkoaaDrawSrv
import Derived.Test.YtnhbmegglpgkoaaSrv
import Derived.BigQuiet
namespace Go.Proofs.Ytnhbmegglpgkoaa
open Go.RowKit Go.Deep

/-- What a draw of servers or requests leaves. -/
def GotTwo (n : Nat) (w : World) (e : Ending) (w' : World) : Prop := ∃ (a : Option Addr) (cap : Nat) (l : List A2), e = .returned (.slice a l.length cap) ∧ l.length ≤ n ∧ l.length ≤ cap ∧ cap ≤ maxLen ∧ Row2 w' a l ∧ Below w.heap.size w w'
theorem own2_caps {t : TypeId} {w : World} {base : Nat} {a : Option Addr} {cap : Nat} {l : List A2} (h : Own2 t w base (.slice a l.length cap) l) : l.length ≤ cap ∧ cap ≤ maxLen := by
  obtain ⟨_, ⟨e, h0⟩ | ⟨g, cap', cur, e, h3, hb, hnc, hcm, hsz, hx⟩⟩ := h
  · simp only [Value.slice.injEq] at e
    rw [e.2.2]
    exact ⟨by omega, by simp [maxLen]⟩
  · simp only [Value.slice.injEq] at e
    rw [e.2.2]
    exact ⟨hnc, hcm⟩
theorem row2_nil (w : World) (a : Option Addr) : Row2 w a [] := fun k hk => by simp at hk
theorem vals_one2 (f : Nat → Int) (n : Nat) : ∀ u ∈ vals f n, u.oneCell' = true := by
  intro u hu
  obtain ⟨k, _, rfl⟩ := List.mem_map.1 hu
  rfl
theorem row2_news {w : World} {b off : Nat} {l : List A2} (h : Row2 w (some ⟨b, off, none⟩) l) : ∀ (j : Nat) (u : Value), (vals (f2 l) (l.length * 2))[j]? = some u → w.cell? ((⟨b, off, none⟩ : Addr).add j) = some u := by
  intro j u hj
  have hjl : j < l.length * 2 := by
    have := (List.getElem?_eq_some_iff.1 hj).1
    rwa [vals_len] at this
  rw [vals_at _ hjl] at hj
  obtain rfl := Option.some.inj hj
  obtain ⟨b', off', e, _, c0, c1⟩ := h (j / 2) (by omega)
  simp only [Option.some.injEq, Addr.mk.injEq, and_true] at e
  obtain ⟨rfl, rfl⟩ := e
  rw [Addr.add_lit]
  unfold f2
  have h3 : j % 2 = 0 ∨ j % 2 = 1 := by omega
  rcases h3 with h3 | h3
  · rw [h3, show off + j = off + j / 2 * 2 by omega]
    exact c0
  · rw [h3, show off + j = off + j / 2 * 2 + 1 by omega]
    exact c1
theorem row2_take {w : World} {a : Option Addr} {l : List A2} (h : Row2 w a l) (i : Nat) : Row2 w a (l.take i) := by
  intro k hk
  rw [List.length_take] at hk
  have e : ab (l.take i) k = ab l k := by
    unfold ab
    rw [List.getD_eq_getElem?_getD, List.getD_eq_getElem?_getD, List.getElem?_take_of_lt (by omega)]
  rw [e]
  exact h k (by omega)
theorem copied2 {t : TypeId} {w wx : World} {v : Value} {l : List A2} (ho : wx.ownsRow w.heap.size t 2 v (0 + l.length) ([] ++ vals (f2 l) (l.length * 2))) (hg : (w.alloc (.cells #[] t)).grownBy wx (Value.ownBlock (.slice (some ⟨w.heap.size, 0, none⟩) 0 0)))
    (hnil : v = .slice none 0 0 ↔ (Value.slice (some ⟨w.heap.size, 0, none⟩) 0 0 = .slice none 0 0 ∧ l.length = 0)) :
    ∃ g cap, v = .slice (some ⟨g, 0, none⟩) l.length cap ∧ w.heap.size ≤ g ∧ g < wx.heap.size ∧ Own2 t wx w.heap.size (.slice (some ⟨g, 0, none⟩) l.length cap) l ∧ Below w.heap.size w wx := by
  have hown : Own2 t wx w.heap.size v l := by
    unfold Own2
    simpa using ho
  have hn : v ≠ .slice none 0 0 := fun e => by have := (hnil.1 e).1; simp at this
  obtain ⟨g, cap, rfl⟩ : ∃ g cap, v = .slice (some ⟨g, 0, none⟩) l.length cap := by
    obtain ⟨_, ⟨rfl, _⟩ | ⟨g, cap, cur, rfl, _⟩⟩ := hown
    · exact absurd rfl hn
    · exact ⟨g, cap, rfl⟩
  exact ⟨g, cap, rfl, (hown.lt g rfl).1, (hown.lt g rfl).2, hown, (below_box _ _).grown hg (by simp) (by simp [Value.ownBlock])⟩
/-- The pairs with the first number of pair i replaced. -/
def updA (l : List A2) (i : Nat) (x : Int) : List A2 := l.set i (x, (ab l i).2)
theorem updA_len (l : List A2) (i : Nat) (x : Int) : (updA l i x).length = l.length := by simp [updA]
theorem ab_updA {l : List A2} {i : Nat} (hi : i < l.length) (x : Int) (k : Nat) : ab (updA l i x) k = if k = i then (x, (ab l i).2) else ab l k := by
  unfold updA ab
  rw [List.getD_eq_getElem?_getD, List.getElem?_set]
  by_cases e : k = i
  · subst e
    rw [if_pos rfl, if_pos hi, if_pos rfl]
    rfl
  · rw [if_neg (fun h => e h.symm), if_neg e]
    rw [List.getD_eq_getElem?_getD]
theorem vals_updA {l : List A2} {i : Nat} (hi : i < l.length) (x : Int) : (vals (f2 l) (l.length * 2)).set (i * 2) (.int .i64 x) = vals (f2 (updA l i x)) ((updA l i x).length * 2) := by
  rw [updA_len]
  refine List.ext_getElem? fun j => ?_
  rw [List.getElem?_set]
  by_cases hj : j < l.length * 2
  · by_cases e : i * 2 = j
    · subst e
      have e1 : f2 (updA l i x) (i * 2) = x := by
        unfold f2
        rw [show i * 2 / 2 = i by omega, show i * 2 % 2 = 0 by omega, ab_updA hi, if_pos rfl]
        rfl
      rw [if_pos rfl, if_pos (by rw [vals_len]; exact hj), vals_at _ hj, e1]
    · have e1 : f2 (updA l i x) j = f2 l j := by
        unfold f2
        rw [ab_updA hi]
        by_cases e2 : j / 2 = i
        · rw [if_pos e2, show j % 2 = 1 by omega, e2]
          rfl
        · rw [if_neg e2]
      rw [if_neg e, vals_at _ hj, vals_at _ hj, e1]
  · rw [if_neg (by omega), List.getElem?_eq_none (by rw [vals_len]; omega), List.getElem?_eq_none (by rw [vals_len]; omega)]
theorem own2_upd {t : TypeId} {w : World} {base g n cap i : Nat} {l : List A2} (h : Own2 t w base (.slice (some ⟨g, 0, none⟩) n cap) l) (hi : i < l.length) (x : Int) :
    Own2 t (w.setCell ⟨g, i * 2, none⟩ (.int .i64 x)) base (.slice (some ⟨g, 0, none⟩) (updA l i x).length cap) (updA l i x) := by
  obtain ⟨a', cap', e⟩ := h.shape
  simp only [Value.slice.injEq] at e
  obtain ⟨-, rfl, -⟩ := e
  have h1 := (World.ownsRow.stored h (i * 2) (.int .i64 x)).1
  unfold Own2
  rw [← vals_updA hi, updA_len]
  exact h1
theorem ss_take {ss : List A2} (h : ssB ss = true) (i : Nat) : ssB (ss.take i) = true := by
  obtain ⟨h1, h2⟩ := ssB_iff.1 h
  refine ssB_iff.2 ⟨by rw [List.length_take]; omega, fun k hk => ?_⟩
  rw [List.length_take] at hk
  have e : ab (ss.take i) k = ab ss k := by
    unfold ab
    rw [List.getD_eq_getElem?_getD, List.getD_eq_getElem?_getD, List.getElem?_take_of_lt (by omega)]
  rw [e]
  exact h2 k (by omega)
theorem ss_over {ss : List A2} {i : Nat} (hi : i < ss.length) {x : Int} (hx : (ab ss i).2 < x) : ssB (updA ss i x) = false := by
  cases e : ssB (updA ss i x) with
  | false => rfl
  | true =>
    have := (ssB_iff.1 e).2 i (by rw [updA_len]; exact hi)
    rw [ab_updA hi, if_pos rfl] at this
    simp only at this
    omega
theorem al_take {al : List A2} (h : alB al = true) (i : Nat) : alB (al.take i) = true := by
  obtain ⟨h1, h2⟩ := alB_iff.1 h
  refine alB_iff.2 ⟨by rw [List.length_take]; omega, fun k hk => ?_⟩
  rw [List.length_take] at hk
  have e : ∀ j, j ≤ k → ab (al.take i) j = ab al j := fun j hj => by
    unfold ab
    rw [List.getD_eq_getElem?_getD, List.getD_eq_getElem?_getD, List.getElem?_take_of_lt (by omega)]
  rw [e k (Nat.le_refl _), e (k - 1) (by omega)]
  exact h2 k (by omega)
theorem al_upw {al : List A2} (h : alB al = true) {i : Nat} (hi : i < al.length) (h0 : i ≠ 0) : (ab al (i - 1)).1 ≤ (ab al i).1 := by
  rcases ((alB_iff.1 h).2 i hi).2.2.2.2 with e | e
  · exact absurd e h0
  · exact e

set_option maxRecDepth 100000 in
set_option maxHeartbeats 2000000 in
/-- spec.DrawServersValid. -/
theorem drawServersValid_any (a : Option Addr) (len cap : Nat) (w : World) (hb : Byts w a len cap) :
    Calls Try.prog 6 #[.slice a len cap] w (GotTwo 3 w) := by
  obtain ⟨hb, hc, hm⟩ := hb
  have HB := Lib.hid hb
  clear hb
  go_enter Try.func6, Try.ntmps6
  go_wp2_with fail
  refine (l20Open_any _ _ _ _ HB.out hc hm).mono ?_
  rintro e w1 ⟨rfl, hr, hb1, hs1⟩
  clear hs1
  have HR := Lib.hid hr
  clear hr
  go_wp2_with fail
  refine (l20Servers_any w.heap.size 0 2 _ HR.out (by omega)).mono ?_
  rintro e w2 ⟨s, o, rfl, hp, hl⟩
  obtain ⟨a2, cap2, rfl⟩ := hp.ow.shape
  have HP := Lib.hid hp
  clear hp
  go_wp2
  go_ret
  exact ⟨a2, cap2, o, rfl, hl, (own2_caps HP.out.ow).1, (own2_caps HP.out.ow).2, HP.out.ow.row2, hb1.trans (gb_to_below HP.out.gb (Nat.le_refl _) hb1.size)⟩

set_option maxRecDepth 100000 in
set_option maxHeartbeats 2000000 in
/-- spec.DrawArrivalsLegal. -/
theorem drawArrivalsLegal_any (a : Option Addr) (len cap : Nat) (w : World) (hb : Byts w a len cap) :
    Calls Try.prog 10 #[.slice a len cap] w (GotTwo 21 w) := by
  obtain ⟨hb, hc, hm⟩ := hb
  have HB := Lib.hid hb
  clear hb
  go_enter Try.func10, Try.ntmps10
  go_wp2_with fail
  refine (l20Open_any _ _ _ _ HB.out hc hm).mono ?_
  rintro e w1 ⟨rfl, hr, hb1, hs1⟩
  clear hs1
  have HR := Lib.hid hr
  clear hr
  go_wp2_with fail
  refine (l20Arrivals_any w.heap.size 0 2 _ HR.out (by omega)).mono ?_
  rintro e w2 ⟨s, o, rfl, hp, hl⟩
  obtain ⟨a2, cap2, rfl⟩ := hp.ow.shape
  have HP := Lib.hid hp
  clear hp
  go_wp2
  go_ret
  exact ⟨a2, cap2, o, rfl, hl, (own2_caps HP.out.ow).1, (own2_caps HP.out.ow).2, HP.out.ow.row2, hb1.trans (gb_to_below HP.out.gb (Nat.le_refl _) hb1.size)⟩

set_option maxRecDepth 100000 in
set_option maxHeartbeats 4000000 in
/-- laws.FnServersValid. -/
theorem fnServersValid_walk (a : Option Addr) (len cap : Nat) (w : World) (hb : Byts w a len cap) :
    Calls Try.prog 3 #[.slice a len cap] w fun e w' => e = .returned (.bool true) ∧ Below w.heap.size w w' := by
  have hm : cap ≤ maxLen := hb.2.2
  have hlc : len ≤ cap := hb.2.1
  unfold maxLen at hm
  have HB := Lib.hid hb
  clear hb
  by_cases hl : 1048576 < len
  · have hl' : (1048576 : Int) < len := by omega
    go_enter Try.func3, Try.ntmps3
    go_wp2
    go_ret
    exact ⟨rfl, Below.refl _ _⟩
  have hl' : ¬ (1048576 : Int) < len := by omega
  go_enter Try.func3, Try.ntmps3
  go_wp2_with fail
  refine (drawServersValid_any _ _ _ _ HB.out).mono ?_
  rintro e w1 ⟨a1, cap1, ss, rfl, hn, hlc1, hcm1, hr1, b1⟩
  have R1 := Lib.hid hr1
  clear hr1 HB
  obtain ⟨i0, hi, hz, hsz, hby⟩ := info_parts srvInfo
  have HI := Lib.hid (And.intro hi (And.intro hz (And.intro hsz hby)))
  clear hi hz hsz hby
  go_wp2_with fail
  refine (serversValid_any _ _ ss _ R1.out (by omega)).mono ?_
  rintro e w2 ⟨rfl, b2⟩
  have B2 := b1.trans (b2.mono b1.size)
  have R2 := Lib.hid (R1.out.below b2)
  clear b1 b2 R1
  go_wp2_with fail
  refine (specServersValid_any _ _ _ _ R2.out (by omega)).mono ?_
  rintro e w3 ⟨rfl, b3⟩
  have B3 := B2.trans (b3.mono B2.size)
  have R3 := Lib.hid (R2.out.below b3)
  clear b3 R2 B2
  obtain ⟨sv, hsv⟩ : ∃ sv, sv = ssB ss := ⟨_, rfl⟩
  rw [← hsv]
  have HSV := Lib.hid hsv
  clear hsv
  cases sv with
  | true =>
    go_wp2_with fail
    refine (serversValid_any _ _ [] _ (row2_nil _ _) (by simp)).mono ?_
    rintro e w4 ⟨rfl, b4⟩
    rw [show ssB [] = true from rfl]
    have B34 : Below w3.heap.size w3 w4 := (below_box w3 (.cells #[] 27)).trans (b4.mono (by simp))
    have B4 := B3.trans (B34.mono B3.size)
    have R4 := Lib.hid (R3.out.below B34)
    clear b4 B34 R3 B3
    go_wp2
    go_loopg [5] ss.length (fun m z wr => ∃ k : Nat, m + k = ss.length ∧ z = .int .i64 k ∧ Below w4.heap.size w4 wr)
    case atStart => exact ⟨0, rfl, rfl, Below.refl _ _⟩
    case round =>
      obtain ⟨i, hk, rfl, B⟩ := hrel
      have HK := Lib.hid hk
      have HB := Lib.hid B
      have hii : i ≤ ss.length := by omega
      clear hk
      by_cases hlt : i < ss.length
      · have hi0 : (0 : Int) ≤ i := by omega
        have hi1 : (i : Int) < ss.length := by omega
        have hic : (i : Int) ≤ cap1 := by omega
        obtain ⟨b, off, ea, hbb, -, -⟩ := R4.out i hlt
        subst ea
        have hs := (ssB_iff.1 HSV.out.symm).2 i hlt
        obtain ⟨P, hP⟩ : ∃ P, P = (ab ss i).2 := ⟨_, rfl⟩
        have HP := Lib.hid hP
        have hP1 : 1 ≤ P ∧ P ≤ 12 := by omega
        obtain ⟨hPa, hPb⟩ := hP1
        have CP := Lib.hid fun o => row2_news ((R4.out.below B).below (below_box wr o))
        clear B hs hP
        go_wp2_with (at_builtin; refine wpList_append_own _ rfl (.tmp 29) (.tmp 30) 23 rfl wr.heap.size 27 i0 _ 2 16 Try.underlying23 HI.out.1 HI.out.2.1 HI.out.2.2.1 HI.out.2.2.2 rfl (by decide) (.slice (some ⟨wr.heap.size, 0, none⟩) 0 0) 0 [] rfl (Own2.empty _ wr) ⟨b, off, none⟩ ss.length cap1 (vals (f2 ss) (ss.length * 2)) rfl (vals_len _ _) (CP.out _) (vals_one2 _ _) (by unfold maxLen; omega) (by omega) (by simp) ?_; intro v' w5 hown hgrow hnil; obtain ⟨g2, c2, rfl, hg2, hg3, ho2, bx2⟩ := copied2 hown hgrow hnil; obtain ⟨bb, bo, eb, -, s0, s1⟩ := ho2.row2 i hlt; simp only [Option.some.injEq, Addr.mk.injEq, and_true] at eb; obtain ⟨rfl, rfl⟩ := eb; simp only [Nat.zero_add] at s0 s1; rw [← HP.out] at s1; have z0 := World.ownsRow.frozenAt ho2 (i * 2); have HO2 := Lib.hid ho2; have BX2 := Lib.hid bx2; clear hown hgrow hnil ho2 bx2)
        obtain ⟨W, hW⟩ : ∃ W, W = w5.setCell ⟨g2, i * 2, none⟩ (.int .i64 (P + 1)) := ⟨_, rfl⟩
        have HO5 := Lib.hid (show Row2 W (some ⟨g2, 0, none⟩) (updA ss i (P + 1)) from by rw [hW]; exact (own2_upd HO2.out hlt (P + 1)).row2)
        have B5 : Below w4.heap.size w4 W := by rw [hW]; exact HB.out.trans ((BX2.out.setCell (p := ⟨g2, i * 2, none⟩) hg2 _).mono HB.out.size)
        rw [← hW]
        clear hW HO2 BX2 z0 s0 s1 CP
        have hTl : (ss.take i).length = i := by rw [List.length_take]; omega
        have C1 := serversValid_any (some ⟨b, off, none⟩) cap1 (ss.take i) W ((row2_take R4.out i).below B5) (by omega)
        rw [hTl, ss_take HSV.out.symm i] at C1
        go_wp2_with fail
        refine C1.mono ?_
        rintro e w6 ⟨rfl, b6⟩
        have B6 : Below w4.heap.size w4 w6 := B5.trans (b6.mono B5.size)
        have C2 := serversValid_any (some ⟨g2, 0, none⟩) c2 (updA ss i (P + 1)) w6 (HO5.out.below b6) (by rw [updA_len]; omega)
        rw [updA_len, ss_over hlt (by rw [HP.out]; omega)] at C2
        go_wp2_with fail
        refine C2.mono ?_
        rintro e w7 ⟨rfl, b7⟩
        have B7 := Lib.hid (B6.trans (b7.mono B6.size))
        clear C1 C2 HO5 B5 B6 b6 b7 hTl
        go_wp2
        go_roundg (gk - 1)
        case measure => have := HK.out; omega
        case rel => exact ⟨i + 1, by have := HK.out; omega, by go_num, B7.out⟩
      · obtain rfl : i = ss.length := by omega
        have B5 := B4.trans (B.mono B4.size)
        clear B HB
        go_wp2_with fail
        refine (alive_any _).mono ?_
        rintro e w5 ⟨rfl, b5⟩
        go_wp2
        go_ret
        exact ⟨rfl, B5.trans (b5.mono B5.size)⟩
  | false =>
    go_wp2_with fail
    refine (serversValid_any _ _ [] _ (row2_nil _ _) (by simp)).mono ?_
    rintro e w4 ⟨rfl, b4⟩
    rw [show ssB [] = true from rfl]
    have B34 : Below w3.heap.size w3 w4 := (below_box w3 (.cells #[] 27)).trans (b4.mono (by simp))
    have B4 := B3.trans (B34.mono B3.size)
    have R4 := Lib.hid (R3.out.below B34)
    clear b4 B34 R3 B3
    go_wp2
    go_loopg [5] ss.length (fun m z wr => ∃ k : Nat, m + k = ss.length ∧ z = .int .i64 k ∧ Below w4.heap.size w4 wr)
    case atStart => exact ⟨0, rfl, rfl, Below.refl _ _⟩
    case round =>
      obtain ⟨i, hk, rfl, B⟩ := hrel
      have HK := Lib.hid hk
      have HB := Lib.hid B
      have hii : i ≤ ss.length := by omega
      clear hk
      by_cases hlt : i < ss.length
      · have hi0 : (0 : Int) ≤ i := by omega
        have hi1 : (i : Int) < ss.length := by omega
        have hic : (i : Int) ≤ cap1 := by omega
        obtain ⟨b, off, ea, hbb, -, -⟩ := R4.out i hlt
        subst ea
        have CP := Lib.hid fun o => row2_news ((R4.out.below B).below (below_box wr o))
        clear B
        go_wp2_with (at_builtin; refine wpList_append_own _ rfl (.tmp 29) (.tmp 30) 23 rfl wr.heap.size 27 i0 _ 2 16 Try.underlying23 HI.out.1 HI.out.2.1 HI.out.2.2.1 HI.out.2.2.2 rfl (by decide) (.slice (some ⟨wr.heap.size, 0, none⟩) 0 0) 0 [] rfl (Own2.empty _ wr) ⟨b, off, none⟩ ss.length cap1 (vals (f2 ss) (ss.length * 2)) rfl (vals_len _ _) (CP.out _) (vals_one2 _ _) (by unfold maxLen; omega) (by omega) (by simp) ?_; intro v' w5 hown hgrow hnil; obtain ⟨g2, c2, rfl, hg2, hg3, ho2, bx2⟩ := copied2 hown hgrow hnil; obtain ⟨bb, bo, eb, -, s0, s1⟩ := ho2.row2 i hlt; simp only [Option.some.injEq, Addr.mk.injEq, and_true] at eb; obtain ⟨rfl, rfl⟩ := eb; simp only [Nat.zero_add] at s0 s1; have z0 := World.ownsRow.frozenAt ho2 (i * 2); have HO2 := Lib.hid ho2; have BX2 := Lib.hid bx2; clear hown hgrow hnil ho2 bx2)
        have B5 := Lib.hid (fun x => HB.out.trans ((BX2.out.setCell (p := ⟨g2, i * 2, none⟩) hg2 x).mono HB.out.size))
        clear HO2 BX2 z0 s0 s1 CP
        go_roundg (gk - 1)
        case measure => have := HK.out; omega
        case rel => exact ⟨i + 1, by have := HK.out; omega, by go_num, B5.out _⟩
      · obtain rfl : i = ss.length := by omega
        have B5 := B4.trans (B.mono B4.size)
        clear B HB
        go_wp2_with fail
        refine (alive_any _).mono ?_
        rintro e w5 ⟨rfl, b5⟩
        go_wp2
        go_ret
        exact ⟨rfl, B5.trans (b5.mono B5.size)⟩

set_option maxRecDepth 100000 in
set_option maxHeartbeats 4000000 in
/-- laws.FnArrivalsLegal. -/
theorem fnArrivalsLegal_walk (a : Option Addr) (len cap : Nat) (w : World) (hb : Byts w a len cap) :
    Calls Try.prog 4 #[.slice a len cap] w fun e w' => e = .returned (.bool true) ∧ Below w.heap.size w w' := by
  have hm : cap ≤ maxLen := hb.2.2
  have hlc : len ≤ cap := hb.2.1
  unfold maxLen at hm
  have HB := Lib.hid hb
  clear hb
  by_cases hl : 1048576 < len
  · have hl' : (1048576 : Int) < len := by omega
    go_enter Try.func4, Try.ntmps4
    go_wp2
    go_ret
    exact ⟨rfl, Below.refl _ _⟩
  have hl' : ¬ (1048576 : Int) < len := by omega
  go_enter Try.func4, Try.ntmps4
  go_wp2_with fail
  refine (drawArrivalsLegal_any _ _ _ _ HB.out).mono ?_
  rintro e w1 ⟨a1, cap1, ss, rfl, hn, hlc1, hcm1, hr1, b1⟩
  have R1 := Lib.hid hr1
  clear hr1 HB
  go_wp2_with fail
  refine (arrivalsLegal_any _ _ ss _ R1.out (by omega)).mono ?_
  rintro e w2 ⟨rfl, b2⟩
  have B2 := b1.trans (b2.mono b1.size)
  have R2 := Lib.hid (R1.out.below b2)
  clear b1 b2 R1
  go_wp2_with fail
  refine (specArrivalsLegal_any _ _ _ _ R2.out (by omega)).mono ?_
  rintro e w3 ⟨rfl, b3⟩
  have B3 := B2.trans (b3.mono B2.size)
  have R3 := Lib.hid (R2.out.below b3)
  clear b3 R2 B2
  obtain ⟨sv, hsv⟩ : ∃ sv, sv = alB ss := ⟨_, rfl⟩
  rw [← hsv]
  have HSV := Lib.hid hsv
  clear hsv
  cases sv with
  | true =>
    go_wp2_with fail
    refine (arrivalsLegal_any _ _ [] _ (row2_nil _ _) (by simp)).mono ?_
    rintro e w4 ⟨rfl, b4⟩
    rw [show alB [] = true from rfl]
    have B34 : Below w3.heap.size w3 w4 := (below_box w3 (.cells #[] 34)).trans (b4.mono (by simp))
    have B4 := B3.trans (B34.mono B3.size)
    have R4 := Lib.hid (R3.out.below B34)
    clear b4 B34 R3 B3
    go_wp2
    go_loopg [5] ss.length (fun m z wr => ∃ k : Nat, m + k = ss.length ∧ z = .int .i64 k ∧ Below w4.heap.size w4 wr)
    case atStart => exact ⟨0, rfl, rfl, Below.refl _ _⟩
    case round =>
      obtain ⟨i, hk, rfl, B⟩ := hrel
      have HK := Lib.hid hk
      have HB := Lib.hid B
      have hii : i ≤ ss.length := by omega
      clear hk
      by_cases hlt : i < ss.length
      · have hi0 : (0 : Int) ≤ i := by omega
        have hi1 : (i : Int) < ss.length := by omega
        have hic : (i : Int) ≤ cap1 := by omega
        have hTl : (ss.take i).length = i := by rw [List.length_take]; omega
        obtain ⟨b, off, ea, hbb, y0, -⟩ := (R4.out.below B) i hlt
        subst ea
        have C1 := Lib.hid (fun W hw => arrivalsLegal_any (some ⟨b, off, none⟩) cap1 (ss.take i) W ((row2_take R4.out i).below (B.trans hw)) (by omega))
        rw [hTl, al_take HSV.out.symm i] at C1
        clear B hTl
        by_cases h0 : i = 0
        · subst h0
          go_wp2
          refine wp_region_held_drew (S := fun w' => w'.cell? ⟨b, off + 0 * 2, none⟩ = some (.int .i64 (ab ss 0).1)) (by kernel_rfl) ?_ (fun hHeld => ?_)
          · (try dsimp only)
            (first | exact y0 | exact (HB6.out.cell (p := ⟨b, off + 0 * 2, none⟩) hbb).trans y0 | (go_keep; done))
          refine wpAnyH_take (i := 0) (v := ?_) (toArr_get _ 0 _ rfl) (by kernel_rfl) (by kernel_rfl) (by kernel_rfl) (fun _ _ _ h => h) (Or.inl ⟨by rfl, ?_⟩) (by assumption) ?_
          rotate_left
          · (intro w hSw; (try dsimp only at hSw); go_simp; (try with_reducible rfl))
          (try simp only [Act.put, List.setIfInBounds_toArray, List.set_cons_zero, List.set_cons_succ])
          refine wpAnyH_take (i := 1) (v := ?_) (toArr_get _ 1 _ rfl) (by kernel_rfl) (by kernel_rfl) (by kernel_rfl) (fun _ _ _ h => h) (Or.inl ⟨by rfl, ?_⟩) (by assumption) ?_
          rotate_left
          · (intro w hSw; (try dsimp only at hSw); go_simp; (try with_reducible rfl))
          (try simp only [Act.put, List.setIfInBounds_toArray, List.set_cons_zero, List.set_cons_succ])
          refine wpAnyH_take (i := 2) (v := ?_) (toArr_get _ 2 _ rfl) (by kernel_rfl) (by kernel_rfl) (by kernel_rfl) (fun _ _ _ h => h) (Or.inl ⟨by rfl, ?_⟩) (by assumption) ?_
          rotate_left
          · (intro w hSw; (try dsimp only at hSw); go_simp; (try with_reducible rfl))
          (try simp only [Act.put, List.setIfInBounds_toArray, List.set_cons_zero, List.set_cons_succ])
          refine wpAnyH_take (i := 3) (v := ?_) (toArr_get _ 3 _ rfl) (by kernel_rfl) (by kernel_rfl) (by kernel_rfl) (fun _ _ _ h => h) (Or.inl ⟨by rfl, ?_⟩) (by assumption) ?_
          rotate_left
          · (intro w hSw; (try dsimp only at hSw); go_simp; (try with_reducible rfl))
          (try simp only [Act.put, List.setIfInBounds_toArray, List.set_cons_zero, List.set_cons_succ])
          refine wpAnyH_take (i := 4) (v := ?_) (toArr_get _ 4 _ rfl) (by kernel_rfl) (by kernel_rfl) (by kernel_rfl) (fun _ _ _ h => h) (Or.inl ⟨by rfl, ?_⟩) (by assumption) ?_
          rotate_left
          · (intro w hSw; (try dsimp only at hSw); go_simp; (try with_reducible rfl))
          (try simp only [Act.put, List.setIfInBounds_toArray, List.set_cons_zero, List.set_cons_succ])
          refine wpAnyH_ready (rs := [5]) (by kernel_rfl) (by simp) ?_
          refine AllReadyH.cons (toArr_get _ 5 _ rfl) (fun K hK => ?_) ?_
          · go_simp
            refine (C1.out _ (Below.refl _ _).drew).mono ?_
            rintro e w6 ⟨rfl, b6⟩
            have B6 := Lib.hid (HB.out.trans ((Below.refl _ _).drew.trans b6 |>.mono HB.out.size))
            have HB6 := Lib.hid b6
            go_wp2_with fail
            refine hK.out _ _ ?_ (fun hHeld2 => ?_)
            · (try dsimp only)
              (first | exact y0 | exact (HB6.out.cell (p := ⟨b, off + 0 * 2, none⟩) hbb).trans y0 | (go_keep; done))
            clear hK K hHeld
            have hHeld := hHeld2
            clear hHeld2
            (try simp only [Act.put, List.setIfInBounds_toArray, List.set_cons_zero, List.set_cons_succ])
            refine wpAnyH_take (i := 6) (v := ?_) (toArr_get _ 6 _ rfl) (by kernel_rfl) (by kernel_rfl) (by kernel_rfl) (fun _ _ _ h => h) (Or.inl ⟨by rfl, ?_⟩) (by assumption) ?_
            rotate_left
            · (intro w hSw; (try dsimp only at hSw); go_simp; (try with_reducible rfl))
            (try simp only [Act.put, List.setIfInBounds_toArray, List.set_cons_zero, List.set_cons_succ])
            refine wpAnyH_take (i := 7) (v := ?_) (toArr_get _ 7 _ rfl) (by kernel_rfl) (by kernel_rfl) (by kernel_rfl) (fun _ _ _ h => h) (Or.inl ⟨by rfl, ?_⟩) (by assumption) ?_
            rotate_left
            · (intro w hSw; (try dsimp only at hSw); go_simp; (try with_reducible rfl))
            (try simp only [Act.put, List.setIfInBounds_toArray, List.set_cons_zero, List.set_cons_succ])
            refine wpAnyH_take (i := 8) (v := ?_) (toArr_get _ 8 _ rfl) (by kernel_rfl) (by kernel_rfl) (by kernel_rfl) (fun _ _ _ h => h) (Or.inl ⟨by rfl, ?_⟩) (by assumption) ?_
            rotate_left
            · (intro w hSw; (try dsimp only at hSw); go_simp; (try with_reducible rfl))
            (try simp only [Act.put, List.setIfInBounds_toArray, List.set_cons_zero, List.set_cons_succ])
            refine wpAnyH_take (i := 9) (v := ?_) (toArr_get _ 9 _ rfl) (by kernel_rfl) (by kernel_rfl) (by kernel_rfl) (fun _ _ _ h => h) (Or.inl ⟨by rfl, ?_⟩) (by assumption) ?_
            rotate_left
            · (intro w hSw; (try dsimp only at hSw); go_simp; (try with_reducible rfl))
            (try simp only [Act.put, List.setIfInBounds_toArray, List.set_cons_zero, List.set_cons_succ])
            refine wpAnyH_take (i := 10) (v := ?_) (toArr_get _ 10 _ rfl) (by kernel_rfl) (by kernel_rfl) (by kernel_rfl) (fun _ _ _ h => h) (Or.inl ⟨by rfl, ?_⟩) (by assumption) ?_
            rotate_left
            · (intro w hSw; (try dsimp only at hSw); go_simp; (try with_reducible rfl))
            (try simp only [Act.put, List.setIfInBounds_toArray, List.set_cons_zero, List.set_cons_succ])
            refine wpAnyH_take (i := 11) (v := undef) (toArr_get _ 11 _ rfl) (by kernel_rfl) (by kernel_rfl) (by kernel_rfl) (fun _ _ _ h => h) (Or.inr ⟨by rfl, rfl⟩) (by assumption) ?_
            (try simp only [Act.put, List.setIfInBounds_toArray, List.set_cons_zero, List.set_cons_succ])
            refine wpAnyH_take (i := 12) (v := undef) (toArr_get _ 12 _ rfl) (by kernel_rfl) (by kernel_rfl) (by kernel_rfl) (fun _ _ _ h => h) (Or.inr ⟨by rfl, rfl⟩) (by assumption) ?_
            (try simp only [Act.put, List.setIfInBounds_toArray, List.set_cons_zero, List.set_cons_succ])
            refine wpAnyH_take (i := 13) (v := undef) (toArr_get _ 13 _ rfl) (by kernel_rfl) (by kernel_rfl) (by kernel_rfl) (fun _ _ _ h => h) (Or.inr ⟨by rfl, rfl⟩) (by assumption) ?_
            (try simp only [Act.put, List.setIfInBounds_toArray, List.set_cons_zero, List.set_cons_succ])
            refine wpAnyH_take (i := 14) (v := undef) (toArr_get _ 14 _ rfl) (by kernel_rfl) (by kernel_rfl) (by kernel_rfl) (fun _ _ _ h => h) (Or.inr ⟨by rfl, rfl⟩) (by assumption) ?_
            (try simp only [Act.put, List.setIfInBounds_toArray, List.set_cons_zero, List.set_cons_succ])
            refine wpAnyH_take (i := 15) (v := undef) (toArr_get _ 15 _ rfl) (by kernel_rfl) (by kernel_rfl) (by kernel_rfl) (fun _ _ _ h => h) (Or.inr ⟨by rfl, rfl⟩) (by assumption) ?_
            (try simp only [Act.put, List.setIfInBounds_toArray, List.set_cons_zero, List.set_cons_succ])
            refine wpAnyH_take (i := 16) (v := undef) (toArr_get _ 16 _ rfl) (by kernel_rfl) (by kernel_rfl) (by kernel_rfl) (fun _ _ _ h => h) (Or.inr ⟨by rfl, rfl⟩) (by assumption) ?_
            (try simp only [Act.put, List.setIfInBounds_toArray, List.set_cons_zero, List.set_cons_succ])
            refine wpAnyH_take (i := 17) (v := undef) (toArr_get _ 17 _ rfl) (by kernel_rfl) (by kernel_rfl) (by kernel_rfl) (fun _ _ _ h => h) (Or.inr ⟨by rfl, rfl⟩) (by assumption) ?_
            (try simp only [Act.put, List.setIfInBounds_toArray, List.set_cons_zero, List.set_cons_succ])
            refine wpAnyH_take (i := 18) (v := undef) (toArr_get _ 18 _ rfl) (by kernel_rfl) (by kernel_rfl) (by kernel_rfl) (fun _ _ _ h => h) (Or.inr ⟨by rfl, rfl⟩) (by assumption) ?_
            (try simp only [Act.put, List.setIfInBounds_toArray, List.set_cons_zero, List.set_cons_succ])
            refine wpAnyH_take (i := 19) (v := undef) (toArr_get _ 19 _ rfl) (by kernel_rfl) (by kernel_rfl) (by kernel_rfl) (fun _ _ _ h => h) (Or.inr ⟨by rfl, rfl⟩) (by assumption) ?_
            (try simp only [Act.put, List.setIfInBounds_toArray, List.set_cons_zero, List.set_cons_succ])
            refine wpAnyH_take (i := 20) (v := undef) (toArr_get _ 20 _ rfl) (by kernel_rfl) (by kernel_rfl) (by kernel_rfl) (fun _ _ _ h => h) (Or.inr ⟨by rfl, rfl⟩) (by assumption) ?_
            (try simp only [Act.put, List.setIfInBounds_toArray, List.set_cons_zero, List.set_cons_succ])
            refine wpAnyH_take (i := 21) (v := undef) (toArr_get _ 21 _ rfl) (by kernel_rfl) (by kernel_rfl) (by kernel_rfl) (fun _ _ _ h => h) (Or.inr ⟨by rfl, rfl⟩) (by assumption) ?_
            (try simp only [Act.put, List.setIfInBounds_toArray, List.set_cons_zero, List.set_cons_succ])
            refine wpAnyH_take (i := 22) (v := undef) (toArr_get _ 22 _ rfl) (by kernel_rfl) (by kernel_rfl) (by kernel_rfl) (fun _ _ _ h => h) (Or.inr ⟨by rfl, rfl⟩) (by assumption) ?_
            (try simp only [Act.put, List.setIfInBounds_toArray, List.set_cons_zero, List.set_cons_succ])
            refine wpAnyH_take (i := 23) (v := ?_) (toArr_get _ 23 _ rfl) (by kernel_rfl) (by kernel_rfl) (by kernel_rfl) (fun _ _ _ h => h) (Or.inl ⟨by rfl, ?_⟩) (by assumption) ?_
            rotate_left
            · (intro w hSw; (try dsimp only at hSw); go_simp; (try with_reducible rfl))
            (try simp only [Act.put, List.setIfInBounds_toArray, List.set_cons_zero, List.set_cons_succ])
            refine wpAnyH_take (i := 24) (v := ?_) (toArr_get _ 24 _ rfl) (by kernel_rfl) (by kernel_rfl) (by kernel_rfl) (fun _ _ _ h => h) (Or.inl ⟨by rfl, ?_⟩) (by assumption) ?_
            rotate_left
            · (intro w hSw; (try dsimp only at hSw); go_simp; (try with_reducible rfl))
            (try simp only [Act.put, List.setIfInBounds_toArray, List.set_cons_zero, List.set_cons_succ])
            refine wpAnyH_take (i := 25) (v := ?_) (toArr_get _ 25 _ rfl) (by kernel_rfl) (by kernel_rfl) (by kernel_rfl) (fun _ _ _ h => h) (Or.inl ⟨by rfl, ?_⟩) (by assumption) ?_
            rotate_left
            · (intro w hSw; (try dsimp only at hSw); go_simp; (try with_reducible rfl))
            (try simp only [Act.put, List.setIfInBounds_toArray, List.set_cons_zero, List.set_cons_succ])
            refine wpAnyH_done (by kernel_rfl) ?_ _
            go_wp2
            go_roundg (gk - 1)
            case measure => have := HK.out; omega
            case rel => exact ⟨1, by have := HK.out; omega, by go_num, B6.out⟩
          exact AllReadyH.nil
        · have hup := al_upw HSV.out.symm hlt h0
          obtain ⟨b', off', eb, -, x0, -⟩ := (R4.out.below HB.out) (i - 1) (by omega)
          simp only [Option.some.injEq, Addr.mk.injEq, and_true] at eb
          obtain ⟨rfl, rfl⟩ := eb
          obtain ⟨p, hp⟩ : ∃ p, p = i - 1 := ⟨_, rfl⟩
          have hip : (i : Int) - 1 = (p : Int) := by omega
          have hwi : IntKind.i64.wrap ((i : Int) - 1) = (p : Int) := by rw [IntWalk.i64_in _ (by omega)]; exact hip
          obtain ⟨T, hT⟩ : ∃ T, T = (ab ss i).1 := ⟨_, rfl⟩
          obtain ⟨U, hU⟩ : ∃ U, U = (ab ss (i - 1)).1 := ⟨_, rfl⟩
          rw [← hT] at y0 hup
          rw [← hU] at x0 hup
          rw [← hp] at x0
          have hp0 : (0 : Int) ≤ p := by omega
          have hp1 : (p : Int) < ss.length := by omega
          have hpos : (0 : Int) < i := by omega
          have hTU : ¬ T < U := by omega
          clear hT hU hp h0 hup hip
          go_wp2
          have hq1 : decide (0 < i) = true := decide_eq_true (by omega)
          have hq2 : decide ((0 : Int) < (i : Int)) = true := decide_eq_true (by omega)
          have hq3 : decide (T < U) = false := decide_eq_false (by omega)
          have hwi2 : IntKind.i64.wrap ((i : Int) - 1) = (p : Int) := hwi
          refine wp_region_held_drew (S := fun w' => w'.cell? ⟨b, off + i * 2, none⟩ = some (.int .i64 T) ∧ w'.cell? ⟨b, off + p * 2, none⟩ = some (.int .i64 U)) (by kernel_rfl) ?_ (fun hHeld => ?_)
          · (try dsimp only)
            (first | exact ⟨y0, x0⟩ | exact ⟨(HB6.out.cell (p := ⟨b, off + i * 2, none⟩) hbb).trans y0, (HB6.out.cell (p := ⟨b, off + p * 2, none⟩) hbb).trans x0⟩ | (go_keep; done))
          refine wpAnyH_take (i := 0) (v := ?_) (toArr_get _ 0 _ rfl) (by kernel_rfl) (by kernel_rfl) (by kernel_rfl) (fun _ _ _ h => h) (Or.inl ⟨by rfl, ?_⟩) (by assumption) ?_
          rotate_left
          · (intro w hSw; (try dsimp only at hSw); go_simp; (try with_reducible rfl))
          (try simp only [Act.put, List.setIfInBounds_toArray, List.set_cons_zero, List.set_cons_succ])
          refine wpAnyH_take (i := 1) (v := ?_) (toArr_get _ 1 _ rfl) (by kernel_rfl) (by kernel_rfl) (by kernel_rfl) (fun _ _ _ h => h) (Or.inl ⟨by rfl, ?_⟩) (by assumption) ?_
          rotate_left
          · (intro w hSw; (try dsimp only at hSw); go_simp; (try with_reducible rfl))
          (try simp only [Act.put, List.setIfInBounds_toArray, List.set_cons_zero, List.set_cons_succ])
          refine wpAnyH_take (i := 2) (v := ?_) (toArr_get _ 2 _ rfl) (by kernel_rfl) (by kernel_rfl) (by kernel_rfl) (fun _ _ _ h => h) (Or.inl ⟨by rfl, ?_⟩) (by assumption) ?_
          rotate_left
          · (intro w hSw; (try dsimp only at hSw); go_simp; (try with_reducible rfl))
          (try simp only [Act.put, List.setIfInBounds_toArray, List.set_cons_zero, List.set_cons_succ])
          refine wpAnyH_take (i := 3) (v := ?_) (toArr_get _ 3 _ rfl) (by kernel_rfl) (by kernel_rfl) (by kernel_rfl) (fun _ _ _ h => h) (Or.inl ⟨by rfl, ?_⟩) (by assumption) ?_
          rotate_left
          · (intro w hSw; (try dsimp only at hSw); go_simp; (try with_reducible rfl))
          (try simp only [Act.put, List.setIfInBounds_toArray, List.set_cons_zero, List.set_cons_succ])
          refine wpAnyH_take (i := 4) (v := ?_) (toArr_get _ 4 _ rfl) (by kernel_rfl) (by kernel_rfl) (by kernel_rfl) (fun _ _ _ h => h) (Or.inl ⟨by rfl, ?_⟩) (by assumption) ?_
          rotate_left
          · (intro w hSw; (try dsimp only at hSw); go_simp; (try with_reducible rfl))
          (try simp only [Act.put, List.setIfInBounds_toArray, List.set_cons_zero, List.set_cons_succ])
          refine wpAnyH_ready (rs := [5]) (by kernel_rfl) (by simp) ?_
          refine AllReadyH.cons (toArr_get _ 5 _ rfl) (fun K hK => ?_) ?_
          · go_simp
            refine (C1.out _ (Below.refl _ _).drew).mono ?_
            rintro e w6 ⟨rfl, b6⟩
            have B6 := Lib.hid (HB.out.trans ((Below.refl _ _).drew.trans b6 |>.mono HB.out.size))
            have HB6 := Lib.hid b6
            go_wp2_with fail
            refine hK.out _ _ ?_ (fun hHeld2 => ?_)
            · (try dsimp only)
              (first | exact ⟨y0, x0⟩ | exact ⟨(HB6.out.cell (p := ⟨b, off + i * 2, none⟩) hbb).trans y0, (HB6.out.cell (p := ⟨b, off + p * 2, none⟩) hbb).trans x0⟩ | (go_keep; done))
            clear hK K hHeld
            have hHeld := hHeld2
            clear hHeld2
            (try simp only [Act.put, List.setIfInBounds_toArray, List.set_cons_zero, List.set_cons_succ])
            refine wpAnyH_take (i := 6) (v := ?_) (toArr_get _ 6 _ rfl) (by kernel_rfl) (by kernel_rfl) (by kernel_rfl) (fun _ _ _ h => h) (Or.inl ⟨by rfl, ?_⟩) (by assumption) ?_
            rotate_left
            · (intro w hSw; (try dsimp only at hSw); go_simp; (try with_reducible rfl))
            (try simp only [Act.put, List.setIfInBounds_toArray, List.set_cons_zero, List.set_cons_succ])
            refine wpAnyH_take (i := 7) (v := ?_) (toArr_get _ 7 _ rfl) (by kernel_rfl) (by kernel_rfl) (by kernel_rfl) (fun _ _ _ h => h) (Or.inl ⟨by rfl, ?_⟩) (by assumption) ?_
            rotate_left
            · (intro w hSw; (try dsimp only at hSw); go_simp; (try with_reducible rfl))
            (try simp only [Act.put, List.setIfInBounds_toArray, List.set_cons_zero, List.set_cons_succ])
            refine wpAnyH_take (i := 8) (v := ?_) (toArr_get _ 8 _ rfl) (by kernel_rfl) (by kernel_rfl) (by kernel_rfl) (fun _ _ _ h => h) (Or.inl ⟨by rfl, ?_⟩) (by assumption) ?_
            rotate_left
            · (intro w hSw; (try dsimp only at hSw); go_simp; (try with_reducible rfl))
            (try simp only [Act.put, List.setIfInBounds_toArray, List.set_cons_zero, List.set_cons_succ])
            refine wpAnyH_take (i := 9) (v := ?_) (toArr_get _ 9 _ rfl) (by kernel_rfl) (by kernel_rfl) (by kernel_rfl) (fun _ _ _ h => h) (Or.inl ⟨by rfl, ?_⟩) (by assumption) ?_
            rotate_left
            · (intro w hSw; (try dsimp only at hSw); go_simp; (try with_reducible rfl))
            (try simp only [Act.put, List.setIfInBounds_toArray, List.set_cons_zero, List.set_cons_succ])
            refine wpAnyH_take (i := 10) (v := ?_) (toArr_get _ 10 _ rfl) (by kernel_rfl) (by kernel_rfl) (by kernel_rfl) (fun _ _ _ h => h) (Or.inl ⟨by rfl, ?_⟩) (by assumption) ?_
            rotate_left
            · (intro w hSw; (try dsimp only at hSw); go_simp; (try with_reducible rfl))
            (try simp only [Act.put, List.setIfInBounds_toArray, List.set_cons_zero, List.set_cons_succ])
            refine wpAnyH_take (i := 11) (v := ?_) (toArr_get _ 11 _ rfl) (by kernel_rfl) (by kernel_rfl) (by kernel_rfl) (fun _ _ _ h => h) (Or.inl ⟨by rfl, ?_⟩) (by assumption) ?_
            rotate_left
            · (intro w hSw; (try dsimp only at hSw); go_simp; (try with_reducible rfl))
            (try simp only [Act.put, List.setIfInBounds_toArray, List.set_cons_zero, List.set_cons_succ])
            refine wpAnyH_take (i := 12) (v := ?_) (toArr_get _ 12 _ rfl) (by kernel_rfl) (by kernel_rfl) (by kernel_rfl) (fun _ _ _ h => h) (Or.inl ⟨by rfl, ?_⟩) (by assumption) ?_
            rotate_left
            · (intro w hSw; (try dsimp only at hSw); go_simp; (try with_reducible rfl))
            (try simp only [Act.put, List.setIfInBounds_toArray, List.set_cons_zero, List.set_cons_succ])
            refine wpAnyH_take (i := 13) (v := ?_) (toArr_get _ 13 _ rfl) (by kernel_rfl) (by kernel_rfl) (by kernel_rfl) (fun _ _ _ h => h) (Or.inl ⟨by rfl, ?_⟩) (by assumption) ?_
            rotate_left
            · (intro w hSw; (try dsimp only at hSw); go_simp; (try with_reducible rfl))
            (try simp only [Act.put, List.setIfInBounds_toArray, List.set_cons_zero, List.set_cons_succ])
            refine wpAnyH_take (i := 14) (v := ?_) (toArr_get _ 14 _ rfl) (by kernel_rfl) (by kernel_rfl) (by kernel_rfl) (fun _ _ _ h => h) (Or.inl ⟨by rfl, ?_⟩) (by assumption) ?_
            rotate_left
            · (intro w hSw; (try dsimp only at hSw); go_simp; (try with_reducible rfl))
            (try simp only [Act.put, List.setIfInBounds_toArray, List.set_cons_zero, List.set_cons_succ])
            refine wpAnyH_take (i := 15) (v := ?_) (toArr_get _ 15 _ rfl) (by kernel_rfl) (by kernel_rfl) (by kernel_rfl) (fun _ _ _ h => h) (Or.inl ⟨by rfl, ?_⟩) (by assumption) ?_
            rotate_left
            · (intro w hSw; (try dsimp only at hSw); go_simp; (try with_reducible rfl))
            (try simp only [Act.put, List.setIfInBounds_toArray, List.set_cons_zero, List.set_cons_succ])
            refine wpAnyH_take (i := 16) (v := ?_) (toArr_get _ 16 _ rfl) (by kernel_rfl) (by kernel_rfl) (by kernel_rfl) (fun _ _ _ h => h) (Or.inl ⟨by rfl, ?_⟩) (by assumption) ?_
            rotate_left
            · (intro w hSw; (try dsimp only at hSw); go_simp; (try with_reducible rfl))
            (try simp only [Act.put, List.setIfInBounds_toArray, List.set_cons_zero, List.set_cons_succ])
            refine wpAnyH_take (i := 17) (v := ?_) (toArr_get _ 17 _ rfl) (by kernel_rfl) (by kernel_rfl) (by kernel_rfl) (fun _ _ _ h => h) (Or.inl ⟨by rfl, ?_⟩) (by assumption) ?_
            rotate_left
            · (intro w hSw; (try dsimp only at hSw); go_simp; (try with_reducible rfl))
            (try simp only [Act.put, List.setIfInBounds_toArray, List.set_cons_zero, List.set_cons_succ])
            refine wpAnyH_take (i := 18) (v := ?_) (toArr_get _ 18 _ rfl) (by kernel_rfl) (by kernel_rfl) (by kernel_rfl) (fun _ _ _ h => h) (Or.inl ⟨by rfl, ?_⟩) (by assumption) ?_
            rotate_left
            · (intro w hSw; (try dsimp only at hSw); go_simp; (try with_reducible rfl))
            (try simp only [Act.put, List.setIfInBounds_toArray, List.set_cons_zero, List.set_cons_succ])
            refine wpAnyH_take (i := 19) (v := ?_) (toArr_get _ 19 _ rfl) (by kernel_rfl) (by kernel_rfl) (by kernel_rfl) (fun _ _ _ h => h) (Or.inl ⟨by rfl, ?_⟩) (by assumption) ?_
            rotate_left
            · (intro w hSw; (try dsimp only at hSw); go_simp; (try with_reducible rfl))
            (try simp only [Act.put, List.setIfInBounds_toArray, List.set_cons_zero, List.set_cons_succ])
            refine wpAnyH_take (i := 20) (v := ?_) (toArr_get _ 20 _ rfl) (by kernel_rfl) (by kernel_rfl) (by kernel_rfl) (fun _ _ _ h => h) (Or.inl ⟨by rfl, ?_⟩) (by assumption) ?_
            rotate_left
            · (intro w hSw; (try dsimp only at hSw); go_simp; (try with_reducible rfl))
            (try simp only [Act.put, List.setIfInBounds_toArray, List.set_cons_zero, List.set_cons_succ])
            refine wpAnyH_take (i := 21) (v := ?_) (toArr_get _ 21 _ rfl) (by kernel_rfl) (by kernel_rfl) (by kernel_rfl) (fun _ _ _ h => h) (Or.inl ⟨by rfl, ?_⟩) (by assumption) ?_
            rotate_left
            · (intro w hSw; (try dsimp only at hSw); go_simp; (try with_reducible rfl))
            (try simp only [Act.put, List.setIfInBounds_toArray, List.set_cons_zero, List.set_cons_succ])
            refine wpAnyH_take (i := 22) (v := ?_) (toArr_get _ 22 _ rfl) (by kernel_rfl) (by kernel_rfl) (by kernel_rfl) (fun _ _ _ h => h) (Or.inl ⟨by rfl, ?_⟩) (by assumption) ?_
            rotate_left
            · (intro w hSw; (try dsimp only at hSw); go_simp; (try with_reducible rfl))
            (try simp only [Act.put, List.setIfInBounds_toArray, List.set_cons_zero, List.set_cons_succ])
            refine wpAnyH_take (i := 23) (v := ?_) (toArr_get _ 23 _ rfl) (by kernel_rfl) (by kernel_rfl) (by kernel_rfl) (fun _ _ _ h => h) (Or.inl ⟨by rfl, ?_⟩) (by assumption) ?_
            rotate_left
            · (intro w hSw; (try dsimp only at hSw); go_simp; (try with_reducible rfl))
            (try simp only [Act.put, List.setIfInBounds_toArray, List.set_cons_zero, List.set_cons_succ])
            refine wpAnyH_take (i := 24) (v := ?_) (toArr_get _ 24 _ rfl) (by kernel_rfl) (by kernel_rfl) (by kernel_rfl) (fun _ _ _ h => h) (Or.inl ⟨by rfl, ?_⟩) (by assumption) ?_
            rotate_left
            · (intro w hSw; (try dsimp only at hSw); go_simp; (try with_reducible rfl))
            (try simp only [Act.put, List.setIfInBounds_toArray, List.set_cons_zero, List.set_cons_succ])
            refine wpAnyH_take (i := 25) (v := ?_) (toArr_get _ 25 _ rfl) (by kernel_rfl) (by kernel_rfl) (by kernel_rfl) (fun _ _ _ h => h) (Or.inl ⟨by rfl, ?_⟩) (by assumption) ?_
            rotate_left
            · (intro w hSw; (try dsimp only at hSw); go_simp; (try with_reducible rfl))
            (try simp only [Act.put, List.setIfInBounds_toArray, List.set_cons_zero, List.set_cons_succ])
            refine wpAnyH_done (by kernel_rfl) ?_ _
            go_wp2
            go_roundg (gk - 1)
            case measure => have := HK.out; omega
            case rel => exact ⟨i + 1, by have := HK.out; omega, by go_num, B6.out⟩
          exact AllReadyH.nil
      · obtain rfl : i = ss.length := by omega
        have B5 := B4.trans (B.mono B4.size)
        clear B HB
        go_wp2_with fail
        refine (alive_any _).mono ?_
        rintro e w5 ⟨rfl, b5⟩
        go_wp2
        go_ret
        exact ⟨rfl, B5.trans (b5.mono B5.size)⟩
  | false =>
    go_wp2_with fail
    refine (arrivalsLegal_any _ _ [] _ (row2_nil _ _) (by simp)).mono ?_
    rintro e w4 ⟨rfl, b4⟩
    rw [show alB [] = true from rfl]
    have B34 : Below w3.heap.size w3 w4 := (below_box w3 (.cells #[] 34)).trans (b4.mono (by simp))
    have B4 := B3.trans (B34.mono B3.size)
    have R4 := Lib.hid (R3.out.below B34)
    clear b4 B34 R3 B3
    go_wp2
    go_loopg [5] ss.length (fun m z wr => ∃ k : Nat, m + k = ss.length ∧ z = .int .i64 k ∧ Below w4.heap.size w4 wr)
    case atStart => exact ⟨0, rfl, rfl, Below.refl _ _⟩
    case round =>
      obtain ⟨i, hk, rfl, B⟩ := hrel
      have HK := Lib.hid hk
      have HB := Lib.hid B
      have hii : i ≤ ss.length := by omega
      clear hk
      by_cases hlt : i < ss.length
      · have hi0 : (0 : Int) ≤ i := by omega
        have hi1 : (i : Int) < ss.length := by omega
        clear B
        go_wp2
        go_quiet (fail)
        go_wp2
        go_roundg (gk - 1)
        case measure => have := HK.out; omega
        case rel => exact ⟨i + 1, by have := HK.out; omega, by go_num, HB.out.trans ((below_drewN _ _).mono HB.out.size)⟩
      · obtain rfl : i = ss.length := by omega
        have B5 := B4.trans (B.mono B4.size)
        clear B HB
        go_wp2_with fail
        refine (alive_any _).mono ?_
        rintro e w5 ⟨rfl, b5⟩
        go_wp2
        go_ret
        exact ⟨rfl, B5.trans (b5.mono B5.size)⟩

end Go.Proofs.Ytnhbmegglpgkoaa
