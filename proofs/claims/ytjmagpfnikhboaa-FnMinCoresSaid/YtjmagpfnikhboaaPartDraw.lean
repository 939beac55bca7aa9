/- Contracts of spec.l20Cores, spec.l20Assign and the draws of chapter 7. What is drawn is not told, only its bounds. Condition: the reader of the code's bytes lies where it is said. -/
import Derived.Test.YtjmagpfnikhboaaPartFirst
import Derived.Test.YtjmagpfnikhboaaDrawSet
namespace Go.Proofs.Ytjmagpfnikhboaa
open Go.RowKit Go.Deep

/-- A slice of numbers that a function has grown by itself, while it reads the code's bytes. -/
structure NT (rb : Nat) (w wr : World) (q : Nat) (s : Value) (o : List Int) : Prop where
  gb : w.grownBy wr (some rb)
  rd : Rd wr rb q
  ow : OwnI wr w.heap.size s o.length (fun k => o.getD k 0)
  rl : rb < w.heap.size
theorem getD_snoc (o : List Int) (x : Int) : (∀ k, k < o.length → (o ++ [x]).getD k 0 = o.getD k 0) ∧ (o ++ [x]).getD o.length 0 = x :=
  ⟨fun k hk => by simp [List.getD_eq_getElem?_getD, List.getElem?_append_left hk], by simp [List.getD_eq_getElem?_getD]⟩
theorem NT.pick {rb q q' : Nat} {w wr w' : World} {s : Value} {o : List Int} (h : NT rb w wr q s o) (hg : wr.grownBy w' (some rb)) (hr : Rd w' rb q') : NT rb w w' q' s o :=
  ⟨gb_trans h.gb hg, hr, World.ownsRow.kept h.ow hg (by
    cases e : s.ownBlock with
    | none => exact .inl rfl
    | some k => exact .inr (fun h2 => by have := (h.ow.lt k e).1; have := h.rl; simp only [Option.some.injEq] at h2; omega)), h.rl⟩
theorem NT.more {rb q q' : Nat} {w wr : World} {s : Value} {o : List Int} (h : NT rb w wr q s o) (hq : q ≤ q') : NT rb w wr q' s o := { h with rd := h.rd.mono hq }
theorem NT.alloc {rb q : Nat} {w wr : World} {s : Value} {o : List Int} (h : NT rb w wr q s o) (x : Obj) : NT rb w (wr.alloc x) q s o := h.pick (gb_below (below_box _ _)) (h.rd.alloc _)
theorem NT.start {rb q : Nat} {w : World} (hr : Rd w rb q) : NT rb w (w.alloc (.cells #[] 3)) q (.slice (some ⟨w.heap.size, 0, none⟩) 0 0) [] := ⟨gb_below (below_box _ _), hr.alloc _, OwnI.empty w _, hr.lt⟩
theorem NT.turn {rb q : Nat} {w wr w' : World} {s : Value} {o : List Int} (h : NT rb w wr q s o) (hg : wr.grownBy w' s.ownBlock) : w.grownBy w' (some rb) ∧ Rd w' rb q := by
  have hl := h.rl
  have hs := h.gb.size
  have hr : ∀ k, s.ownBlock = some k → w.heap.size ≤ k := fun k hk => (h.ow.lt k hk).1
  refine ⟨⟨hg.os.trans h.gb.os, hg.tape.trans h.gb.tape, hg.output.trans h.gb.output, Nat.le_trans hs hg.size, fun k hk hne => ?_⟩, h.rd.kept hg.size fun i hi => hg.block i (by omega) fun e => by have := hr i e.symm; omega⟩
  exact (hg.block k (by omega) fun e => by have := hr k e.symm; omega).trans (h.gb.block k hk hne)
theorem NT.push {rb q : Nat} {w wr w' : World} {s v' : Value} {o : List Int} {x : Int} (h : NT rb w wr q s o) (ho : w'.ownsRow w.heap.size 3 1 v' (o.length + 1) (vals (fun k => o.getD k 0) o.length ++ [.int .i64 x])) (hg : wr.grownBy w' s.ownBlock) :
    NT rb w w' q v' (o ++ [x]) := by
  obtain ⟨h1, h2⟩ := h.turn hg
  refine ⟨h1, h2, ?_, h.rl⟩
  rw [List.length_append]
  exact own_pushI ho (getD_snoc o x).1 (getD_snoc o x).2
theorem NT.set {rb q g cap k : Nat} {w wr : World} {o : List Int} (h : NT rb w wr q (.slice (some ⟨g, 0, none⟩) o.length cap) o) (hk : k < o.length) (x : Int) :
    NT rb w (wr.setCell ⟨g, k, none⟩ (.int .i64 x)) q (.slice (some ⟨g, 0, none⟩) (o.set k x).length cap) (o.set k x) := by
  have hg := h.ow.lt g rfl
  refine ⟨gb_set h.gb (.inr hg.1) _, h.rd.set (by have := h.rl; simp; omega) _, ?_, h.rl⟩
  rw [List.length_set]
  refine (h.ow.set hk x).congr fun j hj => ?_
  rw [List.getD_eq_getElem?_getD, List.getD_eq_getElem?_getD, List.getElem?_set]
  by_cases e : j = k
  · subst e; simp [hk]
  · rw [if_neg e, if_neg (fun e' => e e'.symm)]

set_option maxRecDepth 100000 in
set_option maxHeartbeats 2000000 in
/-- spec.l20Cores. -/
theorem l20Cores_any (rb p : Nat) (n : Int) (w : World) (hr : Rd w rb p) (hp : p ≤ 700000000) :
    Calls Try.prog 43 #[.pointer (some ⟨rb, 0, none⟩), .int .i64 n] w fun e w' => ∃ c : Int, e = .returned (.int .i64 c) ∧ (-1 ≤ c ∧ c ≤ 6) ∧ w.grownBy w' (some rb) ∧ Rd w' rb (p + 2) := by
  have HR := Lib.hid hr
  clear hr
  go_enter Try.func43, Try.ntmps43
  go_wp2_with fail
  refine (odd_any rb p n _ HR.out (by omega)).mono ?_
  rintro e w1 ⟨b, rfl, hg1, hr1⟩
  have hlt1 := hr1.lt
  have HG1 := Lib.hid hg1
  have HR1 := Lib.hid hr1
  clear hg1 hr1
  cases b with
  | true =>
    go_wp2_with fail
    refine (pick_any rb (p + 1) 3 _ (HR1.out.alloc _) (by omega)).mono ?_
    rintro e w2 ⟨u, rfl, u0, u1, -, hg2, hr2⟩
    have hu1 : u < 3 := u1 (by omega)
    obtain ⟨P, hP, hcP⟩ := ints_new (j := u.toNat) [0, -1, 6] hg2 hlt1 (by simp; omega)
    have hPb : -1 ≤ P ∧ P ≤ 6 := by simp at hP; omega
    have HE := Lib.hid (And.intro hPb (And.intro (gb_trans HG1.out (gb_trans (gb_below (below_box _ _)) hg2)) hr2))
    clear hP hPb hg2 hr2 u1
    go_wp2
    go_ret
    exact ⟨P, rfl, HE.out.1, HE.out.2.1, HE.out.2.2.mono (by omega)⟩
  | false =>
    go_wp2_with fail
    refine (pick_any rb (p + 1) 4 _ HR1.out (by omega)).mono ?_
    rintro e w2 ⟨u, rfl, u0, u1, -, hg2, hr2⟩
    have hu1 : u < 4 := u1 (by omega)
    have HE := Lib.hid (And.intro (gb_trans HG1.out hg2) hr2)
    clear hg2 hr2 u1
    go_wp2
    go_ret
    exact ⟨1 + u, rfl, by omega, HE.out.1, HE.out.2.mono (by omega)⟩

set_option maxRecDepth 100000 in
set_option maxHeartbeats 4000000 in
/-- spec.l20Assign. -/
theorem l20Assign_any (rb p many : Nat) (cores n : Int) (w : World) (hr : Rd w rb p) (hp : p ≤ 700000000) (hm : many ≤ 12) (hc : -1 ≤ cores ∧ cores ≤ 6) :
    Calls Try.prog 44 #[.pointer (some ⟨rb, 0, none⟩), .int .i64 (many : Int), .int .i64 cores, .int .i64 n] w fun e w' => ∃ s o, e = .returned s ∧ NT rb w w' (p + 20) s o ∧ o.length ≤ 13 := by
  obtain ⟨i0, hi, hz, hsz, hby⟩ := info_parts intInfo
  have HI := Lib.hid (And.intro hi (And.intro hz (And.intro hsz hby)))
  have hlt := hr.lt
  have HR := Lib.hid hr
  obtain ⟨hc1, hc2⟩ := hc
  clear hr hi hz hsz hby
  go_enter Try.func44, Try.ntmps44
  go_wp2
  go_loopg [9, 10] many (fun q s z wr => ∃ (o : List Int), q + o.length = many ∧ z = .int .i64 o.length ∧ NT rb w wr (p + o.length) s o)
  case atStart => exact ⟨[], by simp, rfl, NT.start HR.out⟩
  case round =>
    obtain ⟨o, hq, rfl, hT⟩ := hrel
    have HQ := Lib.hid hq
    have T := Lib.hid hT
    have hom : o.length ≤ many := by omega
    obtain ⟨sa, sc, rfl⟩ := own_shape hT.ow
    clear hq hT
    by_cases hlm : o.length < many
    · have hlm' : (o.length : Int) < many := by omega
      have hmx := mx_rule
      go_wp2_with fail
      refine (pick_any rb (p + o.length) (mx 1 cores) _ T.out.rd (by omega)).mono ?_
      rintro e w2 ⟨u, rfl, u0, u1, -, hg2, hr2⟩
      have T2 := Lib.hid (T.out.pick hg2 hr2)
      have hmb : 1 ≤ mx 1 cores ∧ mx 1 cores ≤ 6 := by unfold mx; split <;> omega
      have hu1 := u1 hmb.1
      clear hg2 hr2 u1 T
      go_wp2_with (at_builtin; refine wpList_append_own _ rfl (.tmp 17) (.tmp 22) 24 rfl w.heap.size 3 i0 _ 1 8 Try.underlying24 HI.out.1 HI.out.2.1 HI.out.2.2.1 HI.out.2.2.2 rfl (by decide) _ o.length (vals (fun k => o.getD k 0) o.length) rfl (T2.out.alloc _).ow ⟨w2.heap.size, 0, none⟩ 1 1 [.int .i64 u] rfl rfl (news1 _ _ _) (one1 _) (by unfold maxLen; omega) (by omega) (T2.out.alloc _).gb.size ?_; intro v' w' hown' hgrow hnil)
      have T5 := Lib.hid ((T2.out.alloc _).push hown' hgrow)
      clear hown' hgrow hnil
      go_roundg (gk - 1)
      case measure => have := HQ.out; omega
      case rel => exact ⟨o ++ [u], by have := HQ.out; rw [List.length_append]; simp; omega, by rw [List.length_append]; go_num, T5.out.more (Nat.le_of_eq (by simp [Nat.add_assoc]))⟩
    · have hlm' : ¬ (o.length : Int) < many := by omega
      go_wp2_with fail
      refine (odd_any rb (p + o.length) n _ T.out.rd (by omega)).mono ?_
      rintro e w2 ⟨b, rfl, hg2, hr2⟩
      have T2 := Lib.hid (T.out.pick hg2 hr2)
      have hlt2 := hr2.lt
      clear hg2 hr2 T
      cases b with
      | false =>
        go_wp2
        go_ret
        exact ⟨_, o, rfl, T2.out.more (by omega), by omega⟩
      | true =>
        by_cases h0 : o.length = 0
        · have h0' : ((o.length : Int) == 0) = true := beq_iff_eq.2 (by omega)
          have H0 := Lib.hid h0
          clear h0
          go_wp2_with (at_builtin; refine wpList_append_own _ rfl (.tmp 35) (.tmp 36) 24 rfl w.heap.size 3 i0 _ 1 8 Try.underlying24 HI.out.1 HI.out.2.1 HI.out.2.2.1 HI.out.2.2.2 rfl (by decide) _ o.length (vals (fun k => o.getD k 0) o.length) rfl (T2.out.alloc _).ow ⟨w2.heap.size, 0, none⟩ 1 1 [.int .i64 0] rfl rfl (news1 _ _ _) (one1 _) (by unfold maxLen; omega) (by omega) (T2.out.alloc _).gb.size ?_; intro v' w' hown' hgrow hnil)
          have T5 := Lib.hid ((T2.out.alloc _).push hown' hgrow)
          clear hown' hgrow hnil
          go_ret
          exact ⟨_, _, rfl, T5.out.more (by omega), by rw [List.length_append]; simp; omega⟩
        · have h0' : ((o.length : Int) == 0) = false := beq_eq_false_iff_ne.2 (by omega)
          have hpos : 0 < o.length := by omega
          clear h0
          go_wp2_with fail
          refine (pick_any rb (p + o.length + 1) 2 _ T2.out.rd (by omega)).mono ?_
          rintro e w3 ⟨u, rfl, u0, u1, -, hg3, hr3⟩
          have T3 := Lib.hid (T2.out.pick hg3 hr3)
          clear hg3 hr3 T2 u1
          by_cases hu : u = 0
          · subst hu
            go_wp2_with (at_builtin; refine wpList_append_own _ rfl (.tmp 35) (.tmp 36) 24 rfl w.heap.size 3 i0 _ 1 8 Try.underlying24 HI.out.1 HI.out.2.1 HI.out.2.2.1 HI.out.2.2.2 rfl (by decide) _ o.length (vals (fun k => o.getD k 0) o.length) rfl (T3.out.alloc _).ow ⟨w3.heap.size, 0, none⟩ 1 1 [.int .i64 0] rfl rfl (news1 _ _ _) (one1 _) (by unfold maxLen; omega) (by omega) (T3.out.alloc _).gb.size ?_; intro v' w' hown' hgrow hnil)
            have T5 := Lib.hid ((T3.out.alloc _).push hown' hgrow)
            clear hown' hgrow hnil
            go_ret
            exact ⟨_, _, rfl, T5.out.more (by omega), by rw [List.length_append]; simp; omega⟩
          · have hu' : (u == 0) = false := by simpa using hu
            clear hu
            obtain ⟨g, hsa⟩ : ∃ g, sa = some ⟨g, 0, none⟩ := by
              obtain ⟨g, c, e, _⟩ := T3.out.ow.at hpos
              simp only [Value.slice.injEq] at e
              exact ⟨g, e.1⟩
            subst hsa
            go_wp2_with fail
            refine (pick_any rb (p + o.length + 1 + 1) o.length _ T3.out.rd (by omega)).mono ?_
            rintro e w4 ⟨x, rfl, x0, x1, -, hg4, hr4⟩
            have hx1 : x < o.length := x1 (by omega)
            obtain ⟨X, rfl⟩ := Int.eq_ofNat_of_zero_le x0
            have hXo : X < o.length := by omega
            have T4 := Lib.hid (T3.out.pick hg4 hr4)
            have hlt4 := hr4.lt
            clear hg4 hr4 x1 T3
            go_wp2_with fail
            refine (pick_any rb (p + o.length + 1 + 1 + 1) 2 _ (T4.out.alloc _).rd (by omega)).mono ?_
            rintro e w5 ⟨y, rfl, y0, y1, -, hg5, hr5⟩
            have hy1 : y < 2 := y1 (by omega)
            obtain ⟨Q, -, hcQ⟩ := ints_new (j := y.toNat) [-1, cores] hg5 hlt4 (by simp; omega)
            have T5 := Lib.hid ((T4.out.alloc _).pick hg5 hr5)
            clear hg5 hr5 y1 T4
            obtain ⟨c1, c2, c3, -⟩ := T5.out.ow.cellAt hXo
            have T6 := Lib.hid (T5.out.set hXo Q)
            clear T5
            go_wp2
            go_ret
            exact ⟨_, o.set X Q, by rw [List.length_set]; rfl, T6.out.more (by omega), by rw [List.length_set]; omega⟩

end Go.Proofs.Ytjmagpfnikhboaa
