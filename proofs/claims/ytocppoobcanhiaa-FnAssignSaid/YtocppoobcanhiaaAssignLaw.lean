/- The walk of laws.FnAssign, for whatever code. Condition: the argument is a slice of bytes. -/
import Derived.Test.YtocppoobcanhiaaAssignSpec
import Derived.Test.YtocppoobcanhiaaFixImpl
import Derived.Test.YtocppoobcanhiaaDrawOrd
import Derived.Test.YtocppoobcanhiaaSame
import Derived.StillTailTactics
namespace Go.Proofs.Ytocppoobcanhiaa
open Go.RowKit Go.Deep

theorem aud_found {ts : List T3} (h : (audB ts).isSome = true) : fixB ts (audO ts) = true := by
  unfold audO
  cases hb : audB ts with
  | none => rw [hb] at h; simp at h
  | some os =>
    unfold audB at hb
    split at hb
    · rename_i hs
      exact aud_fix hs hb
    · simp at hb
theorem aud_lost {ts : List T3} (hs : svB ts = true) (h : (audB ts).isSome = false) : audO ts = [] ∧ ∀ os, fixB ts os = false := by
  have hb : audB ts = none := by simpa using h
  have ha : aud ts = none := by rw [audB, if_pos hs] at hb; exact hb
  exact ⟨by rw [audO, hb]; rfl, aud_none hs ha⟩
set_option maxRecDepth 100000 in
set_option maxHeartbeats 8000000 in
/-- laws.FnAssign. -/
theorem fnAssign_walk (a : Option Addr) (len cap : Nat) (w : World) (hb : Byts w a len cap) :
    Calls Try.prog 11 #[.slice a len cap] w fun e w' => e = .returned (.bool true) ∧ Below w.heap.size w w' := by
  have hm : cap ≤ maxLen := hb.2.2
  have hlc : len ≤ cap := hb.2.1
  unfold maxLen at hm
  have HB := Lib.hid hb
  clear hb
  by_cases hl : 1048576 < len
  · have hl' : (1048576 : Int) < len := by omega
    go_enter Try.func11, Try.ntmps11
    go_wp2
    go_ret
    exact ⟨rfl, Below.refl _ _⟩
  have hl' : ¬ (1048576 : Int) < len := by omega
  go_enter Try.func11, Try.ntmps11
  go_wp2_with fail
  refine (drawFixedFeasible_any _ _ _ _ HB.out).mono ?_
  rintro e w1 ⟨g, cap1, og, ocap, ts, os, rfl, hn, hlc1, hcm1, hon, honc, hr1, ho1, b1⟩
  have R1 := Lib.hid hr1
  clear hr1 HB
  have O1 := Lib.hid ho1
  have I1 := Lib.hid ho1.intF'
  clear ho1
  go_wp2_with fail
  refine (assignPriorities_any _ _ ts _ R1.out (by omega)).mono ?_
  rintro e w2 ⟨⟨v, rfl, ho⟩, b2⟩
  obtain ⟨fa, fc, rfl⟩ := own_shape ho
  have hfc : (audO ts).length ≤ fc := by obtain ⟨_, _, e, _, h, _⟩ := ho.intF; simp only [Value.slice.injEq, true_and] at e; omega
  have hfl := audO_len (ts := ts)
  have F2 := Lib.hid ho.intF'
  have R2 := Lib.hid (R1.out.below b2)
  have I2 := Lib.hid (I1.out.below b2)
  have B2 := b1.trans (b2.mono b1.size)
  clear ho R1 I1 O1 b1 b2
  go_wp2_with fail
  refine (specAssignPriorities_any _ _ ts _ R2.out (by omega)).mono ?_
  rintro e w3 ⟨⟨v, rfl, ho⟩, b3⟩
  obtain ⟨wa, wc, rfl⟩ := own_shape ho
  have W3 := Lib.hid ho.intF'
  have F3 := Lib.hid (F2.out.below b3)
  have R3 := Lib.hid (R2.out.below b3)
  have I3 := Lib.hid (I2.out.below b3)
  have B3 := B2.trans (b3.mono B2.size)
  clear ho b3 R2 I2 F2 B2
  obtain ⟨fl, hflag⟩ : ∃ b, b = (audB ts).isSome := ⟨_, rfl⟩
  rw [← hflag]
  have HFL := Lib.hid hflag
  clear hflag
  go_wp2_with fail
  refine (sameInts_same _ _ _ _ _ _ _ F3.out W3.out (by omega)).mono ?_
  rintro e w4 ⟨rfl, n4, hw4⟩
  have b4 : Below w3.heap.size w3 w4 := by rw [hw4]; exact below_drewN _ _
  have F4 := Lib.hid (F3.out.below b4)
  have R4 := Lib.hid (R3.out.below b4)
  have I4 := Lib.hid (I3.out.below b4)
  have B4 := B3.trans (b4.mono B3.size)
  clear hw4 b4 R3 I3 F3 B3 W3
  go_wp2_with fail
  refine (specOrderValid_any _ _ _ _ ts os _ R4.out I4.out (by omega) honc).mono ?_
  rintro e w5 ⟨rfl, b5⟩
  have F5 := Lib.hid (F4.out.below b5)
  have R5 := Lib.hid (R4.out.below b5)
  have I5 := Lib.hid (I4.out.below b5)
  have B5 := B4.trans (b5.mono B4.size)
  clear b5 R4 I4 F4 B4
  cases hv : ordB ts os with
  | false =>
    go_wp2_with fail
    refine (alive_any _).mono ?_
    rintro e w6 ⟨rfl, b6⟩
    go_wp2
    go_ret
    exact ⟨rfl, B5.trans (b6.mono B5.size)⟩
  | true =>
    have hs := (ordB_iff.1 hv).1
    have hn5 : os.length ≤ 5 := by have h1 := ordB_iff.1 hv; have := (sv_all h1.1).2; omega
    cases fl with
    | true =>
      have hfx := aud_found HFL.out.symm
      go_wp2_with fail
      refine (fixedFeasible_any _ _ _ _ ts (audO ts) _ R5.out F5.out (by omega) hfc).mono ?_
      rintro e w6 ⟨rfl, b6⟩
      rw [hfx]
      go_wp2
      go_ret
      exact ⟨rfl, B5.trans (b6.mono B5.size)⟩
    | false =>
      obtain ⟨hem, hno⟩ := aud_lost hs HFL.out.symm
      have HNO := Lib.hid hno
      obtain ⟨i0, hi, hz, hsz, hby⟩ := info_parts intInfo
      have HI := Lib.hid (And.intro hi (And.intro hz (And.intro hsz hby)))
      clear hi hz hsz hby hno hv hs
      rw [hem]
      clear hem F5
      have hw1 : IntKind.i64.wrap ((os.length : Int) - 1) = (os.length : Int) - 1 := IntWalk.i64_in _ (by omega)
      go_wp2
      go_loopg [9, 10] os.length (fun m s z wr => ∃ (L g c : Nat) (l : List Int), m = L ∧ z = .int .i64 ((L : Int) - 1) ∧ s = .slice (some ⟨g, 0, none⟩) l.length c ∧ l.length + L = os.length ∧ l.length ≤ c ∧ OwnI wr w5.heap.size (.slice (some ⟨g, 0, none⟩) l.length c) l.length (fun k => l.getD k 0) ∧ Below w5.heap.size w5 wr)
      case atStart => exact ⟨os.length, w5.heap.size, 0, [], rfl, rfl, rfl, by simp, by simp, OwnI.empty w5 _, below_box _ _⟩
      case round =>
        obtain ⟨L, g9, c9, l, hm9, rfl, rfl, hll, hlcc, ho, B⟩ := hrel
        have HK := Lib.hid hm9
        have HO := Lib.hid ho
        have hLb : L ≤ os.length := by omega
        have hlb : l.length ≤ 5 := by omega
        have HLL := Lib.hid hll
        clear hm9 ho hll
        cases L with
        | succ L =>
          have hz : (0 : Int) ≤ ((L + 1 : Nat) : Int) - 1 := by omega
          have he : ((L + 1 : Nat) : Int) - 1 = (L : Int) := by omega
          have hL0 : (0 : Int) ≤ (L : Int) := by omega
          have hL1 : (L : Int) < os.length := by omega
          have hw2 : IntKind.i64.wrap ((L : Int) - 1) = (L : Int) - 1 := IntWalk.i64_in _ (by omega)
          rw [he]
          clear hz he
          obtain ⟨bo, oo, ea, _, x0⟩ := (I5.out.below B) L (by omega)
          simp only [Option.some.injEq, Addr.mk.injEq, and_true] at ea
          obtain ⟨rfl, rfl⟩ := ea
          obtain ⟨x, hx⟩ : ∃ x, x = os.getD L 0 := ⟨_, rfl⟩
          simp only [← hx, Nat.zero_add] at x0
          clear hx
          go_wp2_with (at_builtin; refine wpList_append_own _ rfl (.tmp 58) (.tmp 63) 23 rfl w5.heap.size 3 i0 _ 1 8 Try.underlying23 HI.out.1 HI.out.2.1 HI.out.2.2.1 HI.out.2.2.2 rfl (by decide) _ l.length (vals (fun j => l.getD j 0) l.length) rfl (World.ownsRow.alloc HO.out _) ⟨wr.heap.size, 0, none⟩ 1 1 [.int .i64 x] rfl rfl (news1 _ _ _) (one1 _) (by unfold maxLen; omega) (by omega) (Nat.le_trans B.size (below_box _ _).size) ?_; intro v' w' hown' hgrow hnil)
          have B1 : Below w5.heap.size w5 w' := (B.trans ((below_box wr _).mono B.size)).grown hgrow (Nat.le_trans B.size (below_box _ _).size) (fun k hk => HO.out.from k hk)
          obtain ⟨a', c', rfl⟩ := own_shape hown'
          obtain ⟨g', rfl⟩ := own_some hown' (by omega)
          have hcc := own_cap hown'
          have HO1 := Lib.hid (show OwnI w' w5.heap.size (.slice (some ⟨g', 0, none⟩) (l ++ [x]).length c') (l ++ [x]).length (fun j => (l ++ [x]).getD j 0) by unfold OwnI; rw [List.length_append, List.length_singleton, vals_app]; exact hown')
          clear hown' hgrow hnil
          go_roundg (gk - 1)
          case measure => have := HK.out; omega
          case rel => exact ⟨L, g', c', l ++ [x], by have := HK.out; omega, rfl, by rw [List.length_append, List.length_singleton], by rw [List.length_append, List.length_singleton]; have := HLL.out; omega, by rw [List.length_append, List.length_singleton]; omega, HO1.out, B1⟩
        | zero =>
          have hz : ¬ (0 : Int) ≤ ((0 : Nat) : Int) - 1 := by omega
          have I6 := Lib.hid (I5.out.below B)
          have R6 := Lib.hid (R5.out.below B)
          have HB6 := Lib.hid HO.out.intF'
          have B6 := B5.trans (B.mono B5.size)
          clear HO
          go_wp2_with fail
          refine (fixedFeasible_any _ _ _ _ ts os _ R6.out I6.out (by omega) honc).mono ?_
          rintro e w7 ⟨rfl, b7⟩
          rw [HNO.out os]
          have R7 := Lib.hid (R6.out.below b7)
          have I7 := Lib.hid (I6.out.below b7)
          have HB7 := Lib.hid (HB6.out.below b7)
          have B7 := B6.trans (b7.mono B6.size)
          clear b7 R6 I6 HB6 B6
          go_wp2_with fail
          refine (fixedFeasible_any _ _ _ _ ts l _ R7.out HB7.out (by omega) hlcc).mono ?_
          rintro e w8 ⟨rfl, b8⟩
          rw [HNO.out l]
          have R8 := Lib.hid (R7.out.below b8)
          have I8 := Lib.hid (I7.out.below b8)
          have B8 := B7.trans (b8.mono B7.size)
          clear b8 R7 I7 HB7 B7 B
          go_wp2
          go_loopg [11] os.length (fun m z wr => ∃ i : Nat, m + i = os.length + 1 ∧ 1 ≤ i ∧ z = .int .i64 i ∧ Below w8.heap.size w8 wr)
          case atStart => exact ⟨1, by omega, Nat.le_refl _, rfl, Below.refl _ _⟩
          case round =>
            obtain ⟨i, hi, hi1, rfl, B⟩ := hrel
            have HK2 := Lib.hid hi
            have hib : i ≤ 6 := by omega
            have BB := B8.trans (B.mono B8.size)
            clear hi
            by_cases hlt : i < os.length
            · obtain ⟨j, hji⟩ : ∃ j, i = j + 1 := ⟨i - 1, by omega⟩
              have hlt' : (i : Int) < os.length := by omega
              have hw3 : IntKind.i64.wrap ((i : Int) - 1) = (j : Int) := by rw [IntWalk.i64_in _ (by omega)]; omega
              have hj0 : (0 : Int) ≤ j := by omega
              have hj1 : (j : Int) < os.length := by omega
              have hj2 : (0 : Int) ≤ (i : Int) := by omega
              have hjl : j < os.length := by omega
              have hne : ¬ j = i := by omega
              have hne2 : ¬ i = j := by omega
              clear hji
              have IW := Lib.hid (I8.out.below B)
              have NEWS := Lib.hid (show ∀ o : Obj, ∀ (j : Nat) (u : Value), (vals (fun k => os.getD k 0) os.length)[j]? = some u → (wr.alloc o).cell? ((⟨og, 0, none⟩ : Addr).add j) = some u from fun o j u hj => by
                have := IW.out.news (below_box wr o) 0 os.length (by omega) j u (by simpa using hj)
                simpa using this)
              go_wp2_with (at_builtin; refine wpList_append_own _ rfl (.tmp 79) (.tmp 80) 23 rfl wr.heap.size 3 i0 _ 1 8 Try.underlying23 HI.out.1 HI.out.2.1 HI.out.2.2.1 HI.out.2.2.2 rfl (by decide) _ 0 (vals (fun k => os.getD k 0) 0) rfl (OwnI.empty wr _) ⟨og, 0, none⟩ os.length ocap (vals (fun k => os.getD k 0) os.length) rfl (by rw [vals_len, Nat.mul_one]) (NEWS.out _) (vals_one _ _) (by unfold maxLen; omega) (by omega) (below_box _ _).size ?_; intro v' w' hown' hgrow hnil)
              have BX : Below wr.heap.size wr w' := (below_box wr _).grown hgrow (below_box wr _).size (fun k hk => (OwnI.empty wr (fun _ => 0)).from k hk)
              have O3 := (show OwnI w' wr.heap.size v' os.length (fun k => os.getD k 0) by unfold OwnI; simpa [vals] using hown')
              obtain ⟨g', c', e, hg1, -, hcc, -, -⟩ := O3.at (by omega)
              subst e
              have x0 := (O3.cellAt (k := i) hlt).1
              have x1 := (O3.cellAt (k := j) hjl).1
              have z0 := (O3.cellAt (k := i) hlt).2.1
              have z1 := (O3.cellAt (k := j) hjl).2.1
              have OS := Lib.hid (own_list ((O3.set hlt (os.getD j 0)).set hjl (os.getD i 0)))
              have x2 : (w'.setCell ⟨g', i, none⟩ (.int .i64 (os.getD j 0))).cell? ⟨g', j, none⟩ = some (.int .i64 (os.getD j 0)) := by
                have h2 := (O3.set hlt (os.getD j 0)).cellAt (k := j) hjl
                rw [h2.1, if_neg hne]
              have BX2 := Lib.hid ((BX.setCell (p := ⟨g', i, none⟩) hg1 (.int .i64 (os.getD j 0))).setCell (p := ⟨g', j, none⟩) hg1 (.int .i64 (os.getD i 0)))
              clear O3 hown' hgrow hnil BX
              obtain ⟨p0, hp0⟩ : ∃ p, p = os.getD j 0 := ⟨_, rfl⟩
              obtain ⟨p1, hp1⟩ : ∃ p, p = os.getD i 0 := ⟨_, rfl⟩
              rw [← hp0] at x1 x2 OS BX2
              rw [← hp1] at x0 OS BX2
              clear hp0 hp1
              generalize hql : (List.range os.length).map (fun k => if k = j then p1 else if k = i then p0 else os.getD k 0) = ql at OS
              have hqn : ql.length = os.length := by rw [← hql]; simp
              have HQN := Lib.hid hqn
              clear hql hqn
              go_wp2_with fail
              go_simp
              go_wp2_with fail
              have CF := fixedFeasible_any (some ⟨g, 0, none⟩) (some ⟨g', 0, none⟩) cap1 c' ts ql _ ((R8.out.below B).below BX2.out) (by have := OS.out.intF'; rw [HQN.out]; exact this) (by omega) (by rw [HQN.out]; exact hcc)
              rw [HQN.out] at CF
              refine CF.mono ?_
              rintro e w9 ⟨rfl, b9⟩
              rw [HNO.out ql]
              clear CF
              go_wp2
              go_roundg (gk - 1)
              case measure => have := HK2.out; omega
              case rel => exact ⟨i + 1, by have := HK2.out; omega, by omega, by go_num, (B.trans (BX2.out.mono B.size)).trans (b9.mono (B.trans (BX2.out.mono B.size)).size)⟩
            · go_wp2
              go_ret
              exact ⟨rfl, BB⟩

end Go.Proofs.Ytocppoobcanhiaa
