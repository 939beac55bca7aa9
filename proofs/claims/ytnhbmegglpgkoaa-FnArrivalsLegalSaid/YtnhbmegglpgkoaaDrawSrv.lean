/- Contracts of spec.l20Servers, spec.l20Arrivals and spec.DrawServersFeasible: servers, request patterns are drawn. What is drawn is not told, only its bounds. Condition: the reader of the code's bytes lies where it is said. -/
import Derived.Test.YtnhbmegglpgkoaaOwn2
import Derived.Test.YtnhbmegglpgkoaaDrawSet
namespace Go.Proofs.Ytnhbmegglpgkoaa
open Go.RowKit Go.Deep

/-- What spec.l20Servers leaves. -/
def SrvDrawn (rb p : Nat) (w : World) (e : Ending) (w' : World) : Prop := ∃ s o, e = .returned s ∧ PT 27 rb w w' (p + 20) s o ∧ o.length ≤ 3
/-- What spec.l20Arrivals leaves. -/
def ArrDrawn (rb p : Nat) (w : World) (e : Ending) (w' : World) : Prop := ∃ s o, e = .returned s ∧ PT 34 rb w w' (p + 40) s o ∧ o.length ≤ 21

set_option maxRecDepth 100000 in
set_option maxHeartbeats 4000000 in
/-- spec.l20Servers. -/
theorem l20Servers_any (rb p : Nat) (n : Int) (w : World) (hr : Rd w rb p) (hp : p ≤ 700000000) :
    Calls Try.prog 19 #[.pointer (some ⟨rb, 0, none⟩), .int .i64 n] w (SrvDrawn rb p w) := by
  obtain ⟨i0, hi, hz, hsz, hby⟩ := info_parts srvInfo
  have HI := Lib.hid (And.intro hi (And.intro hz (And.intro hsz hby)))
  clear hi hz hsz hby
  have hlt := hr.lt
  have HR := Lib.hid hr
  clear hr
  go_enter Try.func19, Try.ntmps19
  go_wp2_with fail
  refine (pick_any rb p 3 _ (HR.out.alloc _) (by omega)).mono ?_
  rintro e w1 ⟨k0, rfl, k1, k2, -, hg, hr1⟩
  have hk3 : k0 < 3 := k2 (by omega)
  obtain ⟨K, rfl⟩ := Int.eq_ofNat_of_zero_le k1
  have T0 := Lib.hid ((PT.start HR.out 27).pick hg hr1)
  clear hg hr1 k1 k2 HR
  go_wp2
  go_loopg [5, 6] K (fun m s z wr => ∃ (L : Nat) (v : Value) (o : List A2), m = L ∧ z = .int .i64 L ∧ s = v ∧ o.length + L = K ∧ PT 27 rb w wr (p + 1 + 3 * o.length) v o)
  case atStart => exact ⟨K, _, [], rfl, rfl, rfl, by simp, T0.out⟩
  case round =>
    obtain ⟨L, v, o, hm, rfl, rfl, hol, hT⟩ := hrel
    have HK := Lib.hid hm
    have T := Lib.hid hT
    have HOL := Lib.hid hol
    have ho3 : o.length ≤ 2 := by omega
    obtain ⟨sa, sc, rfl⟩ := hT.ow.shape
    clear hm hT hol T0
    cases L with
    | succ L =>
      have hL0 : (0 : Int) < ((L + 1 : Nat) : Int) := by omega
      have hw0 : IntKind.i64.wrap (((L + 1 : Nat) : Int) - 1) = (L : Int) := (IntWalk.i64_in _ (by have := HOL.out; omega)).trans (by omega)
      go_wp2_with fail
      refine (pick_any rb (p + 1 + 3 * o.length) 12 _ T.out.rd (by omega)).mono ?_
      rintro e w2 ⟨v, rfl, v0, v1, -, hg2, hr2⟩
      have hv1 : v < 12 := v1 (by omega)
      have T2 := Lib.hid (T.out.pick hg2 hr2)
      have hlt2 := hr2.lt
      clear hg2 v1 hr2
      go_wp2_with fail
      refine (pick_any rb (p + 1 + 3 * o.length + 1) 4 _ (T2.out.alloc _).rd (by omega)).mono ?_
      rintro e w3 ⟨u, rfl, u0, u1, -, hg3, hr3⟩
      have hu1 : u < 4 := u1 (by omega)
      obtain ⟨P, hP, hcP⟩ := ints_new (j := u.toNat) [4, 6, 12, 1 + v] hg3 hlt2 (by simp; omega)
      have hP1 : 1 ≤ P ∧ P ≤ 12 := by simp at hP; omega
      have T3 := Lib.hid ((T2.out.alloc _).pick hg3 hr3)
      have hlt3 := hr3.lt
      have hmx := mx_rule
      clear hg3 u1 hr3 hP T T2
      go_wp2_with fail
      refine (pick_any rb (p + 1 + 3 * o.length + 1 + 1) (mx 1 (P / 2)) _ T3.out.rd (by omega)).mono ?_
      rintro e w4 ⟨x, rfl, x0, x1, -, hg4, hr4⟩
      have hmb : 1 ≤ mx 1 (P / 2) ∧ mx 1 (P / 2) ≤ 6 := by unfold mx; split <;> omega
      have hx1 := x1 hmb.1
      have T4 := Lib.hid (T3.out.pick hg4 hr4)
      clear hg4 x1 hr4 T3 hcP
      go_wp2_with (at_builtin; refine wpList_append_own _ rfl (.tmp 23) (.tmp 32) 23 rfl w.heap.size 27 i0 _ 2 16 Try.underlying23 HI.out.1 HI.out.2.1 HI.out.2.2.1 HI.out.2.2.2 rfl (by decide) _ o.length (vals (f2 o) (o.length * 2)) rfl (T4.out.alloc _).ow ⟨w4.heap.size, 0, none⟩ 1 1 [.int .i64 (1 + x), .int .i64 P] rfl rfl (news2 _ _ _ _) (one2 _ _) (by unfold maxLen; omega) (by omega) (T4.out.alloc _).gb.size ?_; intro v' w' hown' hgrow hnil)
      have T5 := Lib.hid ((T4.out.alloc _).push hown' hgrow)
      obtain ⟨a5, c5, rfl⟩ := own_shape hown'
      clear hown' hgrow hnil
      go_roundg (gk - 1)
      case measure => have := HK.out; omega
      case rel => exact ⟨L, _, o ++ [(1 + x, P)], by have := HK.out; omega, by rw [IntWalk.wrap64_in _ (by have := HOL.out; omega)], rfl, by have := HOL.out; simp; omega, T5.out.more (by simp; omega)⟩
    | zero =>
      go_wp2_with fail
      refine (odd_any rb (p + 1 + 3 * o.length) n _ T.out.rd (by omega)).mono ?_
      rintro e w2 ⟨b, rfl, hg2, hr2⟩
      have T2 := Lib.hid (T.out.pick hg2 hr2)
      have hlt2 := hr2.lt
      clear hg2 hr2 T
      cases b with
      | false =>
        go_wp2
        go_ret
        exact ⟨_, o, rfl, T2.out.more (by omega), by omega⟩
      | true =>
        go_wp2_with fail
        refine (pick_any rb (p + 1 + 3 * o.length + 1) 4 _ (T2.out.alloc _).rd (by omega)).mono ?_
        rintro e w3 ⟨u, rfl, u0, u1, -, hg3, hr3⟩
        have hu1 : u < 4 := u1 (by omega)
        obtain ⟨P, -, hc0⟩ := ints_new (j := u.toNat * 2) [0, 4, 5, 4, 1, 13, 1, 1] hg3 hlt2 (by simp; omega)
        obtain ⟨Q, -, hc1⟩ := ints_new (j := u.toNat * 2 + 1) [0, 4, 5, 4, 1, 13, 1, 1] hg3 hlt2 (by simp; omega)
        have T3 := Lib.hid ((T2.out.alloc _).pick hg3 hr3)
        clear hg3 u1 hr3 T2
        go_wp2_with (at_builtin; refine wpList_append_own _ rfl (.tmp 37) (.tmp 47) 23 rfl w.heap.size 27 i0 _ 2 16 Try.underlying23 HI.out.1 HI.out.2.1 HI.out.2.2.1 HI.out.2.2.2 rfl (by decide) _ o.length (vals (f2 o) (o.length * 2)) rfl (T3.out.alloc _).ow ⟨w3.heap.size, 0, none⟩ 1 1 [.int .i64 P, .int .i64 Q] rfl rfl (news2 _ _ _ _) (one2 _ _) (by unfold maxLen; omega) (by omega) (T3.out.alloc _).gb.size ?_; intro v' w' hown' hgrow hnil)
        have T5 := Lib.hid ((T3.out.alloc _).push hown' hgrow)
        clear hown' hgrow hnil
        go_ret
        exact ⟨_, _, rfl, T5.out.more (by omega), by simp; omega⟩

set_option maxRecDepth 100000 in
set_option maxHeartbeats 4000000 in
/-- spec.l20Arrivals. -/
theorem l20Arrivals_any (rb p : Nat) (n : Int) (w : World) (hr : Rd w rb p) (hp : p ≤ 700000000) :
    Calls Try.prog 24 #[.pointer (some ⟨rb, 0, none⟩), .int .i64 n] w (ArrDrawn rb p w) := by
  obtain ⟨i0, hi, hz, hsz, hby⟩ := info_parts arrInfo
  have HI := Lib.hid (And.intro hi (And.intro hz (And.intro hsz hby)))
  clear hi hz hsz hby
  have hlt := hr.lt
  have HR := Lib.hid hr
  clear hr
  go_enter Try.func24, Try.ntmps24
  go_wp2_with fail
  refine (pick_any rb p 11 _ (HR.out.alloc _) (by omega)).mono ?_
  rintro e w1 ⟨k0, rfl, k1, k2, -, hg, hr1⟩
  have hk3 : k0 < 11 := k2 (by omega)
  obtain ⟨K, rfl⟩ := Int.eq_ofNat_of_zero_le k1
  have T0 := Lib.hid ((PT.start HR.out 34).pick hg hr1)
  clear hg hr1 k1 k2 HR
  go_wp2
  go_loopg [5, 6, 7] K (fun m s y z wr => ∃ (L i t : Nat) (v : Value) (o : List A2), m = L ∧ z = .int .i64 L ∧ y = .int .i64 t ∧ s = v ∧ i + L = K ∧ o.length ≤ i ∧ t ≤ 14 * i ∧ PT 34 rb w wr (p + 1 + 2 * i) v o)
  case atStart => exact ⟨K, 0, 0, _, [], rfl, rfl, rfl, rfl, by omega, by simp, by omega, T0.out⟩
  case round =>
    obtain ⟨L, i, t, v, o, hm, rfl, rfl, rfl, hil, hol, hti, hT⟩ := hrel
    have HK := Lib.hid hm
    have T := Lib.hid hT
    have HIL := Lib.hid hil
    have hi11 : i ≤ 10 := by omega
    obtain ⟨sa, sc, rfl⟩ := hT.ow.shape
    clear hm hT hil T0
    cases L with
    | succ L =>
      have hL0 : (0 : Int) < ((L + 1 : Nat) : Int) := by omega
      have hw0 : IntKind.i64.wrap (((L + 1 : Nat) : Int) - 1) = (L : Int) := (IntWalk.i64_in _ (by have := HIL.out; omega)).trans (by omega)
      go_wp2_with fail
      refine (pick_any rb (p + 1 + 2 * i) 14 _ T.out.rd (by omega)).mono ?_
      rintro e w2 ⟨v, rfl, v0, v1, -, hg2, hr2⟩
      have hv1 : v < 14 := v1 (by omega)
      obtain ⟨v, rfl⟩ := Int.eq_ofNat_of_zero_le v0
      have T2 := Lib.hid (T.out.pick hg2 hr2)
      clear hg2 v1 hr2 T
      have hwt : IntKind.i64.wrap ((t : Int) + v) = ((t + v : Nat) : Int) := (IntWalk.i64_in _ (by omega)).trans (by omega)
      obtain ⟨t2, ht2⟩ : ∃ t2, t2 = t + v := ⟨_, rfl⟩
      have ht3 : t2 ≤ 14 * (i + 1) := by omega
      rw [← ht2] at hwt
      clear ht2
      by_cases hlt' : t2 < 120
      · have hlt2 : (t2 : Int) < 120 := by omega
        go_wp2_with fail
        refine (pick_any rb (p + 1 + 2 * i + 1) 10 _ T2.out.rd (by omega)).mono ?_
        rintro e w3 ⟨u, rfl, u0, u1, -, hg3, hr3⟩
        have hu1 : u < 10 := u1 (by omega)
        have T3 := Lib.hid (T2.out.pick hg3 hr3)
        clear hg3 u1 hr3 T2
        go_wp2_with (at_builtin; refine wpList_append_own _ rfl (.tmp 21) (.tmp 27) 30 rfl w.heap.size 34 i0 _ 2 16 Try.underlying30 HI.out.1 HI.out.2.1 HI.out.2.2.1 HI.out.2.2.2 rfl (by decide) _ o.length (vals (f2 o) (o.length * 2)) rfl (T3.out.alloc _).ow ⟨w3.heap.size, 0, none⟩ 1 1 [.int .i64 (t2 : Int), .int .i64 (1 + u)] rfl rfl (news2 _ _ _ _) (one2 _ _) (by unfold maxLen; omega) (by omega) (T3.out.alloc _).gb.size ?_; intro v' w' hown' hgrow hnil)
        have T5 := Lib.hid ((T3.out.alloc _).push hown' hgrow)
        obtain ⟨a5, c5, rfl⟩ := own_shape hown'
        clear hown' hgrow hnil
        go_roundg (gk - 1)
        case measure => have := HK.out; omega
        case rel => exact ⟨L, i + 1, t2, _, o ++ [((t2 : Int), 1 + u)], by have := HK.out; omega, by rw [IntWalk.wrap64_in _ (by have := HIL.out; omega)], rfl, rfl, by have := HIL.out; omega, by simp; omega, ht3, T5.out.more (by omega)⟩
      · have hlt2 : ¬ (t2 : Int) < 120 := by omega
        go_wp2
        go_roundg (gk - 1)
        case measure => have := HK.out; omega
        case rel => exact ⟨L, i + 1, t2, _, o, by have := HK.out; omega, by rw [IntWalk.wrap64_in _ (by have := HIL.out; omega)], rfl, rfl, by have := HIL.out; omega, by omega, ht3, T2.out.more (by omega)⟩
    | zero =>
      go_wp2_with fail
      refine (odd_any rb (p + 1 + 2 * i) n _ T.out.rd (by omega)).mono ?_
      rintro e w2 ⟨b, rfl, hg2, hr2⟩
      have T2 := Lib.hid (T.out.pick hg2 hr2)
      have hlt2 := hr2.lt
      clear hg2 hr2 T
      cases b with
      | false =>
        go_wp2
        go_ret
        exact ⟨_, o, rfl, T2.out.more (by omega), by omega⟩
      | true =>
        go_wp2_with fail
        refine (pick_any rb (p + 1 + 2 * i + 1) 3 _ T2.out.rd (by omega)).mono ?_
        rintro e w3 ⟨u, rfl, u0, u1, -, hg3, hr3⟩
        have hu1 : u < 3 := u1 (by omega)
        have T3 := Lib.hid (T2.out.pick hg3 hr3)
        have hlt3 := hr3.lt
        clear hg3 u1 hr3 T2
        by_cases e0 : u = 0
        · subst e0
          go_wp2_with fail
          refine (pick_any rb (p + 1 + 2 * i + 1 + 1) 2 _ (T3.out.alloc _).rd (by omega)).mono ?_
          rintro e w4 ⟨x, rfl, x0, x1, -, hg4, hr4⟩
          have hx1 : x < 2 := x1 (by omega)
          obtain ⟨P, -, hc0⟩ := ints_new (j := x.toNat) [-1, 120] hg4 hlt3 (by simp; omega)
          have T4 := Lib.hid ((T3.out.alloc _).pick hg4 hr4)
          clear hg4 x1 hr4 T3
          go_wp2_with (at_builtin; refine wpList_append_own _ rfl (.tmp 43) (.tmp 50) 30 rfl w.heap.size 34 i0 _ 2 16 Try.underlying30 HI.out.1 HI.out.2.1 HI.out.2.2.1 HI.out.2.2.2 rfl (by decide) _ o.length (vals (f2 o) (o.length * 2)) rfl (T4.out.alloc _).ow ⟨w4.heap.size, 0, none⟩ 1 1 [.int .i64 P, .int .i64 1] rfl rfl (news2 _ _ _ _) (one2 _ _) (by unfold maxLen; omega) (by omega) (T4.out.alloc _).gb.size ?_; intro v' w' hown' hgrow hnil)
          have T5 := Lib.hid ((T4.out.alloc _).push hown' hgrow)
          clear hown' hgrow hnil
          go_ret
          exact ⟨_, _, rfl, T5.out.more (by omega), by simp; omega⟩
        · have e0' : (u == 0) = false := beq_eq_false_iff_ne.2 e0
          by_cases e1 : u = 1
          · subst e1
            clear e0 e0'
            go_wp2_with fail
            refine (pick_any rb (p + 1 + 2 * i + 1 + 1) 2 _ (T3.out.alloc _).rd (by omega)).mono ?_
            rintro e w4 ⟨x, rfl, x0, x1, -, hg4, hr4⟩
            have hx1 : x < 2 := x1 (by omega)
            obtain ⟨P, -, hc0⟩ := ints_new (j := x.toNat) [0, 21] hg4 hlt3 (by simp; omega)
            have T4 := Lib.hid ((T3.out.alloc _).pick hg4 hr4)
            clear hg4 x1 hr4 T3
            go_wp2_with (at_builtin; refine wpList_append_own _ rfl (.tmp 54) (.tmp 61) 30 rfl w.heap.size 34 i0 _ 2 16 Try.underlying30 HI.out.1 HI.out.2.1 HI.out.2.2.1 HI.out.2.2.2 rfl (by decide) _ o.length (vals (f2 o) (o.length * 2)) rfl (T4.out.alloc _).ow ⟨w4.heap.size, 0, none⟩ 1 1 [.int .i64 119, .int .i64 P] rfl rfl (news2 _ _ _ _) (one2 _ _) (by unfold maxLen; omega) (by omega) (T4.out.alloc _).gb.size ?_; intro v' w' hown' hgrow hnil)
            have T5 := Lib.hid ((T4.out.alloc _).push hown' hgrow)
            clear hown' hgrow hnil
            go_ret
            exact ⟨_, _, rfl, T5.out.more (by omega), by simp; omega⟩
          · have e1' : (u == 1) = false := beq_eq_false_iff_ne.2 e1
            clear e0 e1
            go_wp2
            go_loopg [5] (21 - o.length) (fun m s wr => ∃ (v : Value) (o : List A2), m + o.length = 21 ∧ s = v ∧ PT 34 rb w wr (p + 1 + 2 * i + 1 + 1) v o)
            case atStart => exact ⟨_, o, by omega, rfl, T3.out⟩
            case round =>
              obtain ⟨v, o, hm, rfl, hT⟩ := hrel
              have HK2 := Lib.hid hm
              have TL := Lib.hid hT
              have ho21 : o.length ≤ 21 := by omega
              obtain ⟨sa, sc, rfl⟩ := hT.ow.shape
              clear hm hT T3
              by_cases hc : o.length ≤ 20
              · have hc' : (o.length : Int) ≤ 20 := by omega
                go_wp2_with (at_builtin; refine wpList_append_own _ rfl (.tmp 37) (.tmp 39) 30 rfl w.heap.size 34 i0 _ 2 16 Try.underlying30 HI.out.1 HI.out.2.1 HI.out.2.2.1 HI.out.2.2.2 rfl (by decide) _ o.length (vals (f2 o) (o.length * 2)) rfl (TL.out.alloc _).ow ⟨wr.heap.size, 0, none⟩ 1 1 [.int .i64 119, .int .i64 1] rfl rfl (news2 _ _ _ _) (one2 _ _) (by unfold maxLen; omega) (by omega) (TL.out.alloc _).gb.size ?_; intro v' w' hown' hgrow hnil)
                have T5 := Lib.hid ((TL.out.alloc _).push hown' hgrow)
                obtain ⟨a5, c5, rfl⟩ := own_shape hown'
                clear hown' hgrow hnil
                go_roundg (gk - 1)
                case measure => have := HK2.out; omega
                case rel => exact ⟨_, o ++ [(119, 1)], by have := HK2.out; simp; omega, rfl, T5.out⟩
              · have hc' : ¬ (o.length : Int) ≤ 20 := by omega
                go_wp2
                go_ret
                exact ⟨_, o, rfl, TL.out.more (by omega), by omega⟩

end Go.Proofs.Ytnhbmegglpgkoaa
