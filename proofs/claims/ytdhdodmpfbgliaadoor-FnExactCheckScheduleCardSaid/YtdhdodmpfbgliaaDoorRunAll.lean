/- What a schedule reads as; contracts of the reference's functions of chapter 3. Conditions: those that each theorem names. -/
import Derived.Test.YtdhdodmpfbgliaaDoorMem
import Derived.Test.YtdhdodmpfbgliaaDoorBase
import Derived.Laws.MakeOwn
namespace Go.Proofs.YtdhdodmpfbgliaaDoor
open Go.RowKit Go.Deep

/-- What a simulation of pattern P over js.length jobs returns: two slices of its own. -/
def Sched (base : Nat) (w' : World) (P : Pat) (n : Nat) (e : Ending) : Prop :=
  ∃ vr vf, e = .returned (.agg #[vr, vf]) ∧ OwnI w' base vr 120 (fun t => optI (P.run t)) ∧ OwnI w' base vf n (fun i => P.fin 120 i) ∧ Apart vf vr
/-- The jobs' integers and the pattern agree. -/
structure Fits (js : List J4) (P : Pat) : Prop where
  n : P.n = js.length
  rel : ∀ k, k < js.length → (jb js k).2.1 = P.rel k
  ex : ∀ k, k < js.length → (jb js k).2.2.2 = P.ex k
theorem sb_start (B : Nat) (w : World) (hB : B = w.heap.size) (fr ff fl : Nat → Int) :
    SB B w (((w.alloc (.cells #[.slice none 0 0, .slice none 0 0] 29)).alloc (.cells #[.slice none 0 0, .slice none 0 0] 29)).alloc (.cells #[] 3)) (.slice none 0 0) (.slice none 0 0) (.slice (some ⟨B + 2, 0, none⟩) 0 0) 0 0 0 fr ff fl := by
  subst hB
  have e : w.heap.size + 2 = ((w.alloc (.cells #[.slice none 0 0, .slice none 0 0] 29)).alloc (.cells #[.slice none 0 0, .slice none 0 0] 29)).heap.size := by simp
  have hne : ¬ w.heap.size = w.heap.size + 1 := by omega
  refine ⟨by simp [go_sem], by simp [go_sem], by simp [go_sem], by simp [go_sem], by simp [go_sem], by simp [go_sem], by simp [go_sem], by simp [go_sem], ?_, OwnI.nil _ _ _, OwnI.nil _ _ _, ?_, ?_, Apart.nil _, ?_, by simp⟩
  · rw [e]; exact OwnI.empty _ _
  · exact (Apart.nil _).symm
  · exact (Apart.nil _).symm
  · exact (((below_box _ _).alloc (by simp) _).alloc (by simp <;> omega) _)

set_option maxRecDepth 100000 in
set_option maxHeartbeats 2000000 in
/-- spec.l3Run. -/
theorem l3Run_any (ja ka : Option Addr) (jcap kcap : Nat) (js : List J4) (P : Pat) (w : World) (hj : RowJ w ja js) (hk : IntF w ka js.length fun k => P.key k) (hP : Fits js P) (hx : ∀ k, k < js.length → P.ex k ≤ 1000) (hn : js.length ≤ 60) :
    Calls Tryd.prog 35 #[.slice ja js.length jcap, .slice ka js.length kcap] w fun e w' =>
      Sched w.heap.size w' P js.length e ∧ Below w.heap.size w w' := by
  obtain ⟨i0, hi, hz, hsz, hby⟩ := info_parts intInfo
  have HI := Lib.hid (And.intro hi (And.intro hz (And.intro hsz hby)))
  clear hi hz hsz hby
  have HJ := Lib.hid hj
  have HKY := Lib.hid hk
  have HF := Lib.hid hP
  have HX := Lib.hid hx
  clear hj hk hP hx
  go_enter Tryd.func35, Tryd.ntmps35
  go_wp2
  go_loopg [6, 7] js.length (fun m s i wr => ∃ (k : Nat) (vf : Value), m + k = js.length ∧ i = .int .i64 k ∧ SB w.heap.size w wr (.slice none 0 0) vf s 0 k k (fun t => optI (P.run t)) (fun _ => -1) (fun i => (jb js i).2.2.2))
  case atStart => exact ⟨0, .slice none 0 0, rfl, rfl, sb_start _ w rfl _ _ _⟩
  case round =>
    obtain ⟨k, vf, hk, rfl, hsb⟩ := hrel
    have HK := Lib.hid hk
    have HS := Lib.hid hsb
    have hkk : k ≤ js.length := by omega
    clear hk hsb
    by_cases hlt : k < js.length
    · have RJ := Lib.hid (HJ.out.below (w' := wr) (by have := HS.out.bl; exact this))
      obtain ⟨bj, oj, rfl, hbj, _, _, _, x3⟩ := RJ.out k hlt
      obtain ⟨c, hc⟩ : ∃ c, c = (jb js k).2.2.2 := ⟨_, rfl⟩
      rw [← hc] at x3
      have HC := Lib.hid hc
      clear hc
      have hk0 : (0 : Int) ≤ k := by omega
      have hk1 : (k : Int) < js.length := by omega
      go_wp2_with (first
        | (at_builtin; refine wpList_append_at _ rfl (.tmp 18) (.tmp 24) 27 rfl (w.heap.size + 2) 3 i0 _ 1 8 Tryd.underlying27 HI.out.1 HI.out.2.1 HI.out.2.2.1 HI.out.2.2.2 rfl (by decide) _ k (vals (fun i => (jb js i).2.2.2) k) rfl (World.ownsRow.alloc HS.out.ol _) ⟨wr.heap.size, 0, none⟩ 1 1 [.int .i64 c] rfl rfl (news1 _ _ _) (one1 _) (by unfold maxLen; omega) (by omega) (by have := HS.out.sz; simp; omega) (by decide) ?_; intro v1 w1 ho1 hg1 hp1 hn1; have HS1 := Lib.hid ((HS.out.below (below_box _ _)).pushL ho1 HC.out hg1 hp1); have s0 := HS1.out.c1; clear ho1 hg1 hp1 hn1)
        | (at_builtin; refine wpList_append_at _ rfl (.tmp 27) (.tmp 28) 27 rfl (w.heap.size + 2) 3 i0 _ 1 8 Tryd.underlying27 HI.out.1 HI.out.2.1 HI.out.2.2.1 HI.out.2.2.2 rfl (by decide) vf k (vals (fun _ => -1) k) rfl (World.ownsRow.alloc HS1.out.of _) ⟨w1.heap.size, 0, none⟩ 1 1 [.int .i64 (-1)] rfl rfl (news1 _ _ _) (one1 _) (by unfold maxLen; omega) (by omega) (by have := HS1.out.sz; simp; omega) (by decide) ?_; intro v2 w2 ho2 hg2 hp2 hn2; obtain ⟨a2, cap2, rfl⟩ := own_shape ho2; obtain ⟨_, s1, s2, s3, s4⟩ := (HS1.out.below (below_box _ _)).cells hg2 (fun k hk => (HS1.out.of.lt k hk).1); have HS2 := Lib.hid ((HS1.out.below (below_box _ _)).pushF ho2 rfl hg2 hp2); clear ho2 hg2 hp2 hn2))
      go_roundg (gk - 1)
      case measure => have := HK.out; omega
      case rel => exact ⟨k + 1, _, by have := HK.out; omega, by go_num, HS2.out⟩
    · obtain rfl : k = js.length := by omega
      obtain ⟨la, lcap, rfl, _⟩ := HS.out.ol.intF
      have H0 := Lib.hid (HS.out.congr (fr' := fun t => optI (P.run t)) (ff' := fun i => P.fin 0 i) (fl' := fun i => (P.left 0 i : Nat)) (fun _ _ => rfl) (fun _ _ => rfl) (fun i hi => HF.out.ex i hi))
      clear HS
      go_wp2
      go_loopg [8] 120 (fun m i wr => ∃ (t : Nat) (vr vf : Value), m + t = 120 ∧ i = .int .i64 t ∧ SB w.heap.size w wr vr vf (.slice la js.length lcap) t js.length js.length (fun t => optI (P.run t)) (fun i => P.fin t i) (fun i => (P.left t i : Nat)))
      case atStart => exact ⟨0, _, _, rfl, rfl, H0.out⟩
      case round =>
        clear H0 HK
        obtain ⟨t, vr, vf, hk, rfl, hsb⟩ := hrel
        have HK := Lib.hid hk
        have HS := Lib.hid hsb
        have htt : t ≤ 120 := by omega
        clear hk hsb hkk hlt
        by_cases hlt : t < 120
        · have hlt' : (t : Int) < 120 := by omega
          go_wp2_with fail
          refine (l3Best_any _ _ _ _ _ _ js P.rel (P.left t) P.key t _ (HJ.out.below HS.out.bl) HF.out.rel (HS.out.ol.intF') (HKY.out.below HS.out.bl) hn).mono ?_
          rintro e w1 ⟨rfl, b1⟩
          have HS1 := Lib.hid (HS.out.below b1)
          rw [show best P.rel (P.left t) P.key t js.length = P.run t by rw [← HF.out.n]; rfl]
          clear HS
          have t0 := HS1.out.c0
          cases hr : P.run t with
          | none =>
            simp only [optI]
            go_wp2_with (at_builtin; refine wpList_append_at _ rfl (.tmp 41) (.tmp 43) 27 rfl (w.heap.size + 2) 3 i0 _ 1 8 Tryd.underlying27 HI.out.1 HI.out.2.1 HI.out.2.2.1 HI.out.2.2.2 rfl (by decide) vr t (vals (fun t => optI (P.run t)) t) rfl (World.ownsRow.alloc HS1.out.or _) ⟨w1.heap.size, 0, none⟩ 1 1 [.int .i64 (-1)] rfl rfl (news1 _ _ _) (one1 _) (by unfold maxLen; omega) (by omega) (by have := HS1.out.sz; simp; omega) (by decide) ?_; intro v2 w2 ho2 hg2 hp2 hn2; obtain ⟨a2, cap2, rfl⟩ := own_shape ho2; obtain ⟨_, s1, s2, s3, s4⟩ := (HS1.out.below (below_box _ _)).cells hg2 (fun k hk => (HS1.out.or.lt k hk).1); have HRN := Lib.hid hr; have HS2 := Lib.hid ((HS1.out.below (below_box _ _)).pushR ho2 (by rw [hr]; rfl) hg2 hp2); clear ho2 hg2 hp2 hn2 hr)
            go_roundg (gk - 1)
            case measure => have := HK.out; omega
            case rel => exact ⟨t + 1, _, vf, by have := HK.out; omega, by go_num, HS2.out.congr (fun _ _ => rfl) (fun i _ => by rw [Pat.fin_succ, if_neg (by rw [HRN.out]; simp)]) (fun i _ => by rw [Pat.left_succ, if_neg (by rw [HRN.out]; simp)])⟩
          | some b =>
            obtain ⟨hbn, hbr, hbl⟩ := Pat.run_pos hr
            rw [HF.out.n] at hbn
            have hx1 := HX.out b hbn
            have hle := P.left_ex t b
            obtain ⟨l, hl⟩ : ∃ l, l = P.left t b := ⟨_, rfl⟩
            rw [← hl] at hbl hle
            obtain ⟨gl, lcap', hla, hgl, hgl2, _, zl, yl⟩ := HS1.out.ol.at (by omega)
            simp only [Value.slice.injEq] at hla
            obtain ⟨rfl, _, rfl⟩ := hla
            obtain ⟨gf, fcap, rfl, hgf, hgf2, _, zf, yf⟩ := HS1.out.of.at (by omega)
            have hap : gl ≠ gf := fun e => HS1.out.a1 gl rfl (by rw [e]; rfl)
            have ylb := yl b hbn
            have zlb := zl b
            have yfb := yf b hbn
            have zfb := zf b
            rw [← hl] at ylb
            have HL := Lib.hid hl
            have HRN := Lib.hid hr
            clear hl hr yl zl yf zf hbr
            simp only [optI]
            obtain ⟨m, rfl⟩ : ∃ m, l = m + 1 := ⟨l - 1, by omega⟩
            have hn1 : w.heap.size + 1 ≠ gl := by omega
            have hn2 : w.heap.size + 1 ≠ gf := by omega
            have hb0 : (0 : Int) ≤ b := by omega
            have hb1 : (b : Int) < js.length := by omega
            by_cases hm : m = 0
            · subst hm
              go_wp2_with (at_builtin; refine wpList_append_at _ rfl (.tmp 41) (.tmp 43) 27 rfl (w.heap.size + 2) 3 i0 _ 1 8 Tryd.underlying27 HI.out.1 HI.out.2.1 HI.out.2.2.1 HI.out.2.2.2 rfl (by decide) vr t (vals (fun t => optI (P.run t)) t) rfl (World.ownsRow.alloc HS1.out.or _) ⟨w1.heap.size, 0, none⟩ 1 1 [.int .i64 (b : Int)] rfl rfl (news1 _ _ _) (one1 _) (by unfold maxLen; omega) (by omega) (by have := HS1.out.sz; simp; omega) (by decide) ?_; intro v2 w2 ho2 hg2 hp2 hn2; obtain ⟨a2, cap2, rfl⟩ := own_shape ho2; obtain ⟨_, s1, s2, s3, s4⟩ := (HS1.out.below (below_box _ _)).cells hg2 (fun k hk => (HS1.out.or.lt k hk).1); obtain ⟨q1, q2, _⟩ := OwnI.cellAt ((HS1.out.ol.alloc _).grown hg2 HS1.out.a2) hbn; obtain ⟨q3, q4, _⟩ := OwnI.cellAt ((HS1.out.of.alloc _).grown hg2 HS1.out.a3) hbn; (try simp only at q1); rw [← HL.out] at q1; have HS2 := Lib.hid ((HS1.out.below (below_box _ _)).pushR ho2 (by rw [HRN.out]; rfl) hg2 hp2); clear ho2 hg2 hp2 hn2)
              go_roundg (gk - 1)
              case measure => have := HK.out; omega
              case rel => exact ⟨t + 1, _, _, by have := HK.out; omega, by go_num, ((HS2.out.setL hbn 0).setF hbn (t + 1)).congr (fun _ _ => rfl)
                (fun i _ => by
                  rw [Pat.fin_succ, Pat.left_succ, HRN.out]
                  by_cases e : i = b
                  · subst e; rw [← HL.out]; simp
                  · simp [e, show ¬ b = i from fun h => e h.symm])
                (fun i _ => by
                  rw [Pat.left_succ, HRN.out]
                  by_cases e : i = b
                  · subst e; rw [← HL.out]; simp
                  · simp [e, show ¬ b = i from fun h => e h.symm])⟩
            · have hm' : ((m : Int) == 0) = false := by simp; omega
              go_wp2_with (at_builtin; refine wpList_append_at _ rfl (.tmp 41) (.tmp 43) 27 rfl (w.heap.size + 2) 3 i0 _ 1 8 Tryd.underlying27 HI.out.1 HI.out.2.1 HI.out.2.2.1 HI.out.2.2.2 rfl (by decide) vr t (vals (fun t => optI (P.run t)) t) rfl (World.ownsRow.alloc HS1.out.or _) ⟨w1.heap.size, 0, none⟩ 1 1 [.int .i64 (b : Int)] rfl rfl (news1 _ _ _) (one1 _) (by unfold maxLen; omega) (by omega) (by have := HS1.out.sz; simp; omega) (by decide) ?_; intro v2 w2 ho2 hg2 hp2 hn2; obtain ⟨a2, cap2, rfl⟩ := own_shape ho2; obtain ⟨_, s1, s2, s3, s4⟩ := (HS1.out.below (below_box _ _)).cells hg2 (fun k hk => (HS1.out.or.lt k hk).1); obtain ⟨q1, q2, _⟩ := OwnI.cellAt ((HS1.out.ol.alloc _).grown hg2 HS1.out.a2) hbn; obtain ⟨q3, q4, _⟩ := OwnI.cellAt ((HS1.out.of.alloc _).grown hg2 HS1.out.a3) hbn; (try simp only at q1); rw [← HL.out] at q1; have HS2 := Lib.hid ((HS1.out.below (below_box _ _)).pushR ho2 (by rw [HRN.out]; rfl) hg2 hp2); clear ho2 hg2 hp2 hn2)
              go_roundg (gk - 1)
              case measure => have := HK.out; omega
              case rel => exact ⟨t + 1, _, _, by have := HK.out; omega, by go_num, (HS2.out.setL hbn m).congr (fun _ _ => rfl)
                (fun i _ => by
                  rw [Pat.fin_succ, Pat.left_succ, HRN.out]
                  by_cases e : i = b
                  · subst e; rw [← HL.out]; simp [hm]
                  · simp [show ¬ b = i from fun h => e h.symm])
                (fun i _ => by
                  rw [Pat.left_succ, HRN.out]
                  by_cases e : i = b
                  · subst e; rw [← HL.out]; simp
                  · simp [e, show ¬ b = i from fun h => e h.symm])⟩
        · obtain rfl : t = 120 := by omega
          obtain ⟨ar, capr, rfl⟩ := own_shape HS.out.or
          obtain ⟨af, capf, rfl⟩ := own_shape HS.out.of
          have c0 := HS.out.c0
          have c1 := HS.out.c1
          have r0 := HS.out.r0
          have r1 := HS.out.r1
          have g0 := HS.out.g0
          have g1 := HS.out.g1
          go_wp2
          refine bodyPost_ret (v := .agg #[.slice ar 120 capr, .slice af js.length capf]) ?_ rfl ⟨⟨_, _, rfl, ?_, ?_, HS.out.a3⟩, (HS.out.bl.setCell (Nat.le_refl _) _).setCell (Nat.le_refl _) _⟩
          · simp [results, Tryd.results35, go_sem, r0, r1]
          · exact ((HS.out.or.other fun e => by have := (HS.out.or.lt _ e).1; simp at this; omega).other fun e => by have := (HS.out.or.lt _ e).1; simp at this; omega).mono (by omega)
          · exact ((HS.out.of.other fun e => by have := (HS.out.of.lt _ e).1; simp at this; omega).other fun e => by have := (HS.out.of.lt _ e).1; simp at this; omega).mono (by omega)

end Go.Proofs.YtdhdodmpfbgliaaDoor

namespace Go.Proofs.YtdhdodmpfbgliaaDoor
open Go.RowKit Go.Deep

theorem leg_no {ts : List T3} {js : List J4} {k : Nat} (hk : k < js.length) (h : ¬ Leg1 ts js k) : legB ts js = false := by
  rw [Bool.eq_false_iff]
  intro e
  exact h ((legB_iff.1 e).2.2 k hk)
/-- The row 'next' behind k jobs. -/
abbrev NextRow (w : World) (b : Nat) (ts : List T3) (js : List J4) (k : Nat) : Prop := w.rowIs b 3 ts.length (fun i => .int .i64 (nx ts js k i : Nat))
theorem nx_le {ts : List T3} {js : List J4} {k : Nat} (hv : ts.all tv = true) (h : ∀ j, j < k → Leg1 ts js j) (i : Nat) (hi : i < ts.length) : nx ts js k i ≤ 131 := by
  induction k with
  | zero => simp [nx]
  | succ k ih =>
    have hl := (h k (Nat.lt_succ_self k)).nat hv
    have hb := tv_bd (tk_tv hv hi)
    simp only [nx]
    split
    · omega
    · exact ih fun j hj => h j (by omega)

theorem leg1_iff {ts : List T3} {js : List J4} {k i N : Nat} {r dl ex C D Q : Int} (hJ : ((i : Int), r, dl, ex) = jb js k) (hT : (C, D, Q) = tk ts i) (hN : N = nx ts js k i) :
    Leg1 ts js k ↔ i < ts.length ∧ (0 ≤ r ∧ r ≤ 119) ∧ (N : Int) ≤ r ∧ dl = r + D ∧ (1 ≤ ex ∧ ex ≤ C) ∧ (k = 0 ∨ (jb js (k - 1)).2.1 < r ∨ ((jb js (k - 1)).2.1 = r ∧ (jb js (k - 1)).1 < i)) := by
  have hid : jid js k = i := by simp [jid, ← hJ]
  simp only [Leg1, hid, ← hJ, ← hT, ← hN]
  constructor
  · rintro ⟨⟨a1, a2⟩, a⟩
    exact ⟨by omega, a⟩
  · rintro ⟨a1, a⟩
    exact ⟨⟨by omega, by omega⟩, a⟩
theorem nx_step {ts : List T3} {js : List J4} {k i : Nat} {r dl ex C D Q : Int} (hJ : ((i : Int), r, dl, ex) = jb js k) (hT : (C, D, Q) = tk ts i) (hr : 0 ≤ r) (hQ : 0 ≤ Q) (j : Nat) :
    (if j = i then Value.int .i64 (r + Q) else .int .i64 (nx ts js k j : Nat)) = .int .i64 (nx ts js (k + 1) j : Nat) := by
  have hid : jid js k = i := by simp [jid, ← hJ]
  have hrl : jrel js k = r.toNat := by simp [jrel, ← hJ]
  simp only [nx, hid, hrl]
  by_cases e : j = i
  · subst e
    rw [if_pos rfl, if_pos rfl]
    have : per (tk ts j) = Q.toNat := by simp [per, ← hT]
    rw [this]
    congr 1
    omega
  · rw [if_neg e, if_neg (fun h => e h.symm)]

theorem leg_next {ts : List T3} {js : List J4} {k : Nat} (h : ∀ j, j < k → Leg1 ts js j) (hk : Leg1 ts js k) : ∀ j, j < k + 1 → Leg1 ts js j := fun j hj => by
  by_cases e : j = k
  · subst e; exact hk
  · exact h j (by omega)
theorem leg_len {ts : List T3} {js : List J4} (h : ¬ js.length ≤ 60) : legB ts js = false := by simp [legB, h]
theorem next_step {ts : List T3} {js : List J4} {k i b : Nat} {r dl ex C D Q : Int} {W : World} (hJ : ((i : Int), r, dl, ex) = jb js k) (hT : (C, D, Q) = tk ts i) (hr : 0 ≤ r) (hQ : 0 ≤ Q) (h : W.rowIs b 3 ts.length (fun i => .int .i64 (nx ts js k i : Nat))) (m : Nat) :
    NextRow ((W.drewN m).setCell ⟨b, i, none⟩ (.int .i64 (r + Q))) b ts js (k + 1) :=
  (World.rowIs.set (w := W.drewN m) (h.of_block rfl) i (.int .i64 (r + Q))).congr fun j _ => nx_step hJ hT hr hQ j
theorem size_step {n : Nat} {wr W : World} (h : n < wr.heap.size) (hb : Below wr.heap.size wr W) (m : Nat) (a : Addr) {v : Value} : n < ((W.drewN m).setCell a v).heap.size := by
  have h1 := hb.size
  have h2 : ((W.drewN m).setCell a v).heap.size = W.heap.size := by simp [World.setCell, World.drewN]
  omega

set_option maxRecDepth 100000 in
set_option maxHeartbeats 20000000 in
/-- spec.JobsLegal. -/
theorem specJobsLegal_any (a ja : Option Addr) (cap jcap : Nat) (ts : List T3) (js : List J4) (w : World) (hr : Row w a ts) (hj : RowJ w ja js) (hn : ts.length ≤ 1099511627776) (hjn : js.length ≤ 1099511627776) :
    Calls Tryd.prog 13 #[.slice a ts.length cap, .slice ja js.length jcap] w fun e w' =>
      e = .returned (.bool (legB ts js)) ∧ Below w.heap.size w w' := by
  have HR := Lib.hid hr
  have HJ := Lib.hid hj
  clear hr hj
  by_cases hv : svB ts = true
  · have HV := Lib.hid (sv_all hv).1
    have hl5 := (sv_all hv).2
    by_cases hl : js.length ≤ 60
    · have hl' : ¬ (60 : Int) < js.length := by omega
      have HSV := Lib.hid hv
      go_enter Tryd.func13, Tryd.ntmps13
      go_wp2_with fail
      refine (specSetValid_any _ _ _ _ HR.out hn).mono ?_
      rintro e w1 ⟨rfl, b1⟩
      have hmk := run_make_ints ts.length hn
      go_wp2
      clear hmk hv
      go_loopg [6] js.length (fun m i wr => ∃ k : Nat, m + k = js.length ∧ i = .int .i64 k ∧ (∀ j, j < k → Leg1 ts js j) ∧ NextRow wr w1.heap.size ts js k ∧ Below w.heap.size w wr ∧ w1.heap.size < wr.heap.size)
      case atStart => exact ⟨0, rfl, rfl, fun j hj => absurd hj (Nat.not_lt_zero _), World.rowIs_made w1 (.int .i64 0) ts.length 3, b1.alloc b1.size _, by simp⟩
      case round =>
        obtain ⟨k, hk, rfl, hlg, hnr, B, hsz⟩ := hrel
        have HK := Lib.hid hk
        have HLG := Lib.hid hlg
        have HNR := Lib.hid hnr
        have hkk : k ≤ js.length := by omega
        clear hk hlg hnr
        by_cases hlt : k < js.length
        · have RJ := Lib.hid (HJ.out.below B)
          have RT := Lib.hid (HR.out.below B)
          obtain ⟨bj, oj, rfl, hbj, x0, x1, x2, x3⟩ := RJ.out k hlt
          obtain ⟨⟨id, r, dl, ex⟩, hJ⟩ : ∃ j, j = jb js k := ⟨_, rfl⟩
          rw [← hJ] at x0 x1 x2 x3
          simp only at x0 x1 x2 x3
          have HJK := Lib.hid hJ
          clear hJ
          have hk0 : (0 : Int) ≤ k := by omega
          have hk1 : (k : Int) < js.length := by omega
          go_wp2_with fail
          refine (l1In_any _ _ _ _).mono ?_
          rintro e w2 ⟨rfl, rfl⟩
          by_cases hA : 0 ≤ id ∧ id < ts.length
          · have hA' : inB id 0 (↑ts.length - 1) = true := decide_eq_true (by omega)
            rw [hA']
            clear hA'
            obtain ⟨i, rfl⟩ := Int.eq_ofNat_of_zero_le hA.1
            have hi : i < ts.length := by omega
            go_wp2_with fail
            refine (l1In_any _ _ _ _).mono ?_
            rintro e w2 ⟨rfl, rfl⟩
            by_cases hB : 0 ≤ r ∧ r ≤ 119
            · have hB' : inB r 0 119 = true := decide_eq_true hB
              rw [hB']
              clear hB'
              obtain ⟨bt, ot, rfl, hbt, y0, y1, y2⟩ := RT.out.at hi
              obtain ⟨⟨C, D, Q⟩, hT⟩ : ∃ t, t = tk ts i := ⟨_, rfl⟩
              rw [← hT] at y0 y1 y2
              simp only at y0 y1 y2
              have hbd := tv_bd (tk_tv HV.out hi)
              rw [← hT] at hbd
              simp only [cst, dln, per] at hbd
              have HT := Lib.hid hT
              clear hT
              have z0 := HNR.out.cell hi
              have z1 := HNR.out.frozen i
              have hnx := nx_le HV.out HLG.out i hi
              obtain ⟨N, hN⟩ : ∃ N, N = nx ts js k i := ⟨_, rfl⟩
              rw [← hN] at z0 hnx
              have HN := Lib.hid hN
              clear hN
              have hi0 : (0 : Int) ≤ i := by omega
              have hi1 : (i : Int) < ts.length := by omega
              go_wp2
              generalize hW2 : (wr.alloc (.cells #[.int .i64 (i : Int), .int .i64 r, .int .i64 dl, .int .i64 ex] 41)).alloc (.cells #[.int .i64 C, .int .i64 D, .int .i64 Q] 77) = W2
              have BB : Below wr.heap.size wr W2 := by rw [← hW2]; exact (below_box _ _).alloc (by simp) _
              have BW0 := Lib.hid BB
              have BW := Lib.hid (B.trans (BB.mono B.size))
              have j0 : W2.cell? ⟨wr.heap.size, 0, none⟩ = some (.int .i64 (i : Int)) := by rw [← hW2]; simp [go_sem]
              have j1 : W2.cell? ⟨wr.heap.size, 1, none⟩ = some (.int .i64 r) := by rw [← hW2]; simp [go_sem]
              have j2 : W2.cell? ⟨wr.heap.size, 2, none⟩ = some (.int .i64 dl) := by rw [← hW2]; simp [go_sem]
              have j3 : W2.cell? ⟨wr.heap.size, 3, none⟩ = some (.int .i64 ex) := by rw [← hW2]; simp [go_sem]
              have t0 : W2.cell? ⟨wr.heap.size + 1, 0, none⟩ = some (.int .i64 C) := by rw [← hW2]; simp [go_sem]
              have t1 : W2.cell? ⟨wr.heap.size + 1, 1, none⟩ = some (.int .i64 D) := by rw [← hW2]; simp [go_sem]
              have t2 : W2.cell? ⟨wr.heap.size + 1, 2, none⟩ = some (.int .i64 Q) := by rw [← hW2]; simp [go_sem]
              have z0' : W2.cell? ⟨w1.heap.size, i, none⟩ = some (.int .i64 N) := (BB.cell (p := ⟨w1.heap.size, i, none⟩) hsz).trans z0
              have z1' : W2.frozen? ⟨w1.heap.size, i, none⟩ = false := (BB.frozen (p := ⟨w1.heap.size, i, none⟩) hsz).trans z1
              have NR2 := Lib.hid (HNR.out.of_block (BB.block w1.heap.size hsz))
              have RJ2 := Lib.hid (RJ.out.below BB)
              clear hW2 x0 x1 x2 x3 y0 y1 y2 z0 z1 HNR RJ RT BB
              by_cases c1 : (N : Int) ≤ r
              · have c1' : ¬ r < N := by omega
                by_cases c2 : dl = r + D
                · have c2' : (dl != r + D) = false := by simp [c2]
                  have CI := Lib.hid (fun W => l1In_any ex 1 C W)
                  go_quiet ((go_at_call 39; exact quiet_left (CI.out _)))
                  by_cases c3 : 1 ≤ ex ∧ ex ≤ C
                  · have c3' : inB ex 1 C = true := decide_eq_true c3
                    rw [c3']
                    clear c3'
                    by_cases hk0' : k = 0
                    · subst hk0'
                      go_wp2
                      go_quiet (fail)
                      go_wp2
                      go_roundg (gk - 1)
                      case measure => have := HK.out; omega
                      case rel => exact ⟨0 + 1, by have := HK.out; omega, by go_num, leg_next HLG.out ((leg1_iff HJK.out HT.out HN.out).2 ⟨hi, hB, c1, c2, c3, .inl rfl⟩), next_step HJK.out HT.out hB.1 (by omega) NR2.out _, (below_drewN' BW.out _).setCell (p := ⟨w1.heap.size, i, none⟩) b1.size _, size_step hsz BW0.out _ _⟩
                    · obtain ⟨q, rfl⟩ : ∃ q, k = q + 1 := ⟨k - 1, by omega⟩
                      obtain ⟨bp, op, hbp, _, p0, p1, _, _⟩ := RJ2.out q (by omega)
                      simp only [Option.some.injEq, Addr.mk.injEq, and_true] at hbp
                      obtain ⟨rfl, rfl⟩ := hbp
                      obtain ⟨⟨pi, pr, pd, pe⟩, hPJ⟩ : ∃ j, j = jb js q := ⟨_, rfl⟩
                      rw [← hPJ] at p0 p1
                      simp only at p0 p1
                      have HPJ := Lib.hid hPJ
                      clear hPJ
                      have hkp : (0 : Int) < (q : Int) + 1 := by omega
                      have hq0 : (0 : Int) ≤ q := by omega
                      have hq1 : (q : Int) < js.length := by omega
                      clear hk0'
                      by_cases d1 : r < pr
                      · go_wp2
                        go_quiet (fail)
                        go_wp2
                        go_ret
                        exact ⟨ret_bool (leg_no hlt (by rw [leg1_iff HJK.out HT.out HN.out, Nat.add_sub_cancel, ← HPJ.out]; rintro ⟨_, _, _, _, _, h⟩; simp only at h; omega)).symm, (below_drewN' (below_drewN' BW.out _) _)⟩
                      · have d1' : ¬ pr > r := d1
                        by_cases d2 : pr = r
                        · have d2' : (pr == r) = true := by simp [d2]
                          by_cases d3 : (i : Int) ≤ pi
                          · go_wp2
                            go_quiet (fail)
                            go_wp2
                            go_ret
                            exact ⟨ret_bool (leg_no hlt (by rw [leg1_iff HJK.out HT.out HN.out, Nat.add_sub_cancel, ← HPJ.out]; rintro ⟨_, _, _, _, _, h⟩; simp only at h; omega)).symm, (below_drewN' (below_drewN' BW.out _) _)⟩
                          · go_wp2
                            go_quiet (fail)
                            go_wp2
                            go_roundg (gk - 1)
                            case measure => have := HK.out; omega
                            case rel => exact ⟨q + 1 + 1, by have := HK.out; omega, by go_num, leg_next HLG.out ((leg1_iff HJK.out HT.out HN.out).2 ⟨hi, hB, c1, c2, c3, .inr (.inr (by rw [Nat.add_sub_cancel, ← HPJ.out]; exact ⟨d2, by simp only; omega⟩))⟩), next_step HJK.out HT.out hB.1 (by omega) NR2.out _, (below_drewN' BW.out _).setCell (p := ⟨w1.heap.size, i, none⟩) b1.size _, size_step hsz BW0.out _ _⟩
                        · have HD2 := Lib.hid d2
                          have HD1 := Lib.hid d1
                          clear d2 d1 d1'
                          go_wp2
                          have d1 : pr ≤ r := HD1.out
                          have d2 : ¬ pr = r := HD2.out
                          have hwq : IntKind.i64.wrap (q : Int) = q := IntWalk.i64_in _ (by omega)
                          go_quiet (fail)
                          clear hwq
                          go_wp2
                          go_roundg (gk - 1)
                          case measure => have := HK.out; omega
                          case rel => exact ⟨q + 1 + 1, by have := HK.out; omega, by go_num, leg_next HLG.out ((leg1_iff HJK.out HT.out HN.out).2 ⟨hi, hB, c1, c2, c3, .inr (.inl (by rw [Nat.add_sub_cancel, ← HPJ.out]; have := HD2.out; have := HD1.out; simp only; omega))⟩), next_step HJK.out HT.out hB.1 (by omega) NR2.out _, (below_drewN' BW.out _).setCell (p := ⟨w1.heap.size, i, none⟩) b1.size _, size_step hsz BW0.out _ _⟩
                  · have c3' : inB ex 1 C = false := decide_eq_false c3
                    rw [c3']
                    go_wp2
                    go_ret
                    exact ⟨ret_bool (leg_no hlt (by rw [leg1_iff HJK.out HT.out HN.out]; rintro ⟨_, _, _, _, h, _⟩; exact c3 h)).symm, (below_drewN' BW.out _)⟩
                · have c2' : (dl != r + D) = true := by simp [c2]
                  go_quiet (fail)
                  go_wp2
                  go_ret
                  exact ⟨ret_bool (leg_no hlt (by rw [leg1_iff HJK.out HT.out HN.out]; rintro ⟨_, _, _, h, _⟩; exact c2 h)).symm, (below_drewN' BW.out _)⟩
              · have c1' : r < N := by omega
                go_quiet (fail)
                go_wp2
                go_ret
                exact ⟨ret_bool (leg_no hlt (by rw [leg1_iff HJK.out HT.out HN.out]; rintro ⟨_, _, h, _⟩; omega)).symm, (below_drewN' BW.out _)⟩
            · have hB' : inB r 0 119 = false := decide_eq_false hB
              rw [hB']
              go_wp2
              go_ret
              exact ⟨ret_bool (leg_no hlt (by intro h; have h2 := h.2.1; rw [← HJK.out] at h2; exact hB h2)).symm, B.alloc B.size _⟩
          · have hA' : inB id 0 (↑ts.length - 1) = false := decide_eq_false (by omega)
            rw [hA']
            go_wp2
            go_ret
            exact ⟨ret_bool (leg_no hlt (by intro h; have h2 := h.1; rw [← HJK.out] at h2; exact hA h2)).symm, B.alloc B.size _⟩
        · obtain rfl : k = js.length := by omega
          go_wp2
          go_ret
          exact ⟨ret_bool (legB_iff.2 ⟨HSV.out, hl, HLG.out⟩).symm, B⟩
    · have hl' : (60 : Int) < js.length := by omega
      go_enter Tryd.func13, Tryd.ntmps13
      go_wp2_with fail
      refine (specSetValid_any _ _ _ _ HR.out hn).mono ?_
      rintro e w1 ⟨rfl, b1⟩
      go_wp2
      go_ret
      exact ⟨ret_bool (leg_len hl).symm, b1⟩
  · have hv' : svB ts = false := by simpa using hv
    clear hv
    go_enter Tryd.func13, Tryd.ntmps13
    go_wp2_with fail
    refine (specSetValid_any _ _ _ _ HR.out hn).mono ?_
    rintro e w1 ⟨rfl, b1⟩
    go_wp2
    go_ret
    exact ⟨ret_bool (by simp [legB, hv']), b1⟩

end Go.Proofs.YtdhdodmpfbgliaaDoor

namespace Go.Proofs.YtdhdodmpfbgliaaDoor
open Go.RowKit Go.Deep

def lenR (ts : List T3) (js : List J4) : Nat := if legB ts js = true then 120 else 0
def lenF (ts : List T3) (js : List J4) : Nat := if legB ts js = true then js.length else 0
def runF (js : List J4) : Nat → Int := fun t => optI ((edfP js).run t)
def finF (js : List J4) : Nat → Int := fun i => (edfP js).fin 120 i
/-- The schedule of earliest deadline first, in two slices of its own; the zero value for an illegal pattern. -/
def EdfSched (base : Nat) (ts : List T3) (js : List J4) (e : Ending) (w' : World) : Prop :=
  ∃ vr vf, e = .returned (.agg #[vr, vf]) ∧ OwnI w' base vr (lenR ts js) (runF js) ∧ OwnI w' base vf (lenF ts js) (finF js) ∧ Apart vf vr
theorem leg_fits {ts : List T3} {js : List J4} (h : legB ts js = true) : Fits js (edfP js) ∧ (∀ k, k < js.length → (edfP js).ex k ≤ 1000) ∧ ∀ k, k < js.length → (jb js k).2.2.1 = ((edfP js).key k : Nat) := by
  obtain ⟨hv, hl, h1⟩ := legB_iff.1 h
  have hall := (sv_all hv).1
  have hk : ∀ k, k < js.length → (jb js k).2.1 = (jrel js k : Nat) ∧ (jb js k).2.2.2 = (jex js k : Nat) ∧ (jb js k).2.2.1 = (jdl js k : Nat) ∧ jex js k ≤ 1000 := by
    intro k hk
    have h2 := h1 k hk
    obtain ⟨a1, a2, a3, a4, a5, a6, a7⟩ := h2.nat hall
    have hb := tv_bd a2
    obtain ⟨_, ⟨b1, _⟩, _, b3, ⟨b4, _⟩, _⟩ := h2
    simp only [jrel, jex, jdl] at *
    refine ⟨by omega, by omega, by omega, by omega⟩
  exact ⟨⟨rfl, fun k h => (hk k h).1, fun k h => (hk k h).2.1⟩, fun k h => (hk k h).2.2.2, fun k h => (hk k h).2.2.1⟩

/-- spec.RunEdf. -/
theorem specRunEdf_any (a ja : Option Addr) (cap jcap : Nat) (ts : List T3) (js : List J4) (w : World) (hr : Row w a ts) (hj : RowJ w ja js) (hn : ts.length ≤ 1099511627776) (hjn : js.length ≤ 1099511627776) :
    Calls Tryd.prog 11 #[.slice a ts.length cap, .slice ja js.length jcap] w fun e w' =>
      EdfSched w.heap.size ts js e w' ∧ Below w.heap.size w w' := by
  have HR := Lib.hid (hr.below (below_box w (.cells #[.slice none 0 0, .slice none 0 0] 29)))
  have HJ := Lib.hid (hj.below (below_box w (.cells #[.slice none 0 0, .slice none 0 0] 29)))
  clear hr hj
  by_cases hl : legB ts js = true
  · go_enter Tryd.func11, Tryd.ntmps11
    go_wp2_with fail
    refine (specJobsLegal_any _ _ _ _ _ _ _ HR.out HJ.out hn hjn).mono ?_
    rintro e w1 ⟨rfl, b1⟩
    have J1 := Lib.hid (HJ.out.below b1)
    obtain ⟨hf, hx, hky⟩ := leg_fits hl
    have h60 := (legB_iff.1 hl).2.1
    have HL := Lib.hid hl
    have x0 : w1.cell? ⟨w.heap.size, 0, none⟩ = some (.slice none 0 0) := by rw [b1.cell (p := ⟨w.heap.size, 0, none⟩) (by simp)]; go_simp
    have x1 : w1.cell? ⟨w.heap.size, 1, none⟩ = some (.slice none 0 0) := by rw [b1.cell (p := ⟨w.heap.size, 1, none⟩) (by simp)]; go_simp
    have f0 : w1.frozen? ⟨w.heap.size, 0, none⟩ = false := by rw [b1.frozen (p := ⟨w.heap.size, 0, none⟩) (by simp)]; go_simp
    have f1 : w1.frozen? ⟨w.heap.size, 1, none⟩ = false := by rw [b1.frozen (p := ⟨w.heap.size, 1, none⟩) (by simp)]; go_simp
    have bw1 : Below w.heap.size w w1 := (below_box _ _).trans (b1.mono (by simp))
    have hs1 := b1.size
    simp at hs1
    have HF := Lib.hid (And.intro hf (And.intro hx hky))
    clear hf hx hky
    rw [HL.out]
    clear hl
    go_wp2_with fail
    refine (l3Deadlines_any _ _ _ _ J1.out h60).mono ?_
    rintro e w2 ⟨v, rfl, hown, b2⟩
    obtain ⟨ka, kcap, rfl, hIF, _⟩ := hown.intF
    have KF := Lib.hid (hIF.congr HF.out.2.2)
    have J2 := Lib.hid (J1.out.below b2)
    clear hown hIF
    go_wp2_with fail
    refine (l3Run_any _ _ _ _ js (edfP js) _ J2.out KF.out HF.out.1 HF.out.2.1 h60).mono ?_
    rintro e w3 ⟨⟨vr, vf, rfl, o1, o2, ap⟩, b3⟩
    have hs2 := b2.size
    have hlt : w.heap.size < w2.heap.size := by omega
    have y0 := (b3.cell (p := ⟨w.heap.size, 0, none⟩) hlt).trans ((b2.cell (p := ⟨w.heap.size, 0, none⟩) hs1).trans x0)
    have y1 := (b3.cell (p := ⟨w.heap.size, 1, none⟩) hlt).trans ((b2.cell (p := ⟨w.heap.size, 1, none⟩) hs1).trans x1)
    have g0 := (b3.frozen (p := ⟨w.heap.size, 0, none⟩) hlt).trans ((b2.frozen (p := ⟨w.heap.size, 0, none⟩) hs1).trans f0)
    have g1 := (b3.frozen (p := ⟨w.heap.size, 1, none⟩) hlt).trans ((b2.frozen (p := ⟨w.heap.size, 1, none⟩) hs1).trans f1)
    obtain ⟨ar, capr, rfl⟩ := own_shape o1
    obtain ⟨af, capf, rfl⟩ := own_shape o2
    have bw3 : Below w.heap.size w w3 := bw1.trans ((b2.trans (b3.mono b2.size)).mono (by omega))
    have O := Lib.hid (And.intro o1 (And.intro o2 ap))
    clear o1 o2 ap x0 x1 f0 f1
    go_wp2
    refine bodyPost_ret (v := .agg #[.slice ar 120 capr, .slice af js.length capf]) ?_ rfl ⟨⟨_, _, rfl, ?_, ?_, O.out.2.2⟩, (bw3.setCell (Nat.le_refl _) _).setCell (Nat.le_refl _) _⟩
    · simp [results, Tryd.results11, go_sem, y0, y1]
    · rw [lenR, if_pos HL.out]
      exact ((O.out.1.other fun e => by have := (O.out.1.lt _ e).1; simp at this; omega).other fun e => by have := (O.out.1.lt _ e).1; simp at this; omega).mono (by omega)
    · rw [lenF, if_pos HL.out]
      exact ((O.out.2.1.other fun e => by have := (O.out.2.1.lt _ e).1; simp at this; omega).other fun e => by have := (O.out.2.1.lt _ e).1; simp at this; omega).mono (by omega)
  · have hl' : legB ts js = false := by simpa using hl
    have HL := Lib.hid hl'
    clear hl hl'
    go_enter Tryd.func11, Tryd.ntmps11
    go_wp2_with fail
    refine (specJobsLegal_any _ _ _ _ _ _ _ HR.out HJ.out hn hjn).mono ?_
    rintro e w1 ⟨rfl, b1⟩
    rw [HL.out]
    have x0 : w1.cell? ⟨w.heap.size, 0, none⟩ = some (.slice none 0 0) := by rw [b1.cell (p := ⟨w.heap.size, 0, none⟩) (by simp)]; go_simp
    have x1 : w1.cell? ⟨w.heap.size, 1, none⟩ = some (.slice none 0 0) := by rw [b1.cell (p := ⟨w.heap.size, 1, none⟩) (by simp)]; go_simp
    have f0 : w1.frozen? ⟨w.heap.size, 0, none⟩ = false := by rw [b1.frozen (p := ⟨w.heap.size, 0, none⟩) (by simp)]; go_simp
    have f1 : w1.frozen? ⟨w.heap.size, 1, none⟩ = false := by rw [b1.frozen (p := ⟨w.heap.size, 1, none⟩) (by simp)]; go_simp
    have bw1 : Below w.heap.size w w1 := (below_box _ _).trans (b1.mono (by simp))
    go_wp2
    refine bodyPost_ret (v := .agg #[.slice none 0 0, .slice none 0 0]) ?_ rfl ⟨⟨_, _, rfl, ?_, ?_, Apart.nil _⟩, (bw1.setCell (Nat.le_refl _) _).setCell (Nat.le_refl _) _⟩
    · simp [results, Tryd.results11, go_sem, x0, x1]
    · rw [lenR, if_neg (by rw [HL.out]; simp)]
      exact OwnI.nil _ _ _
    · rw [lenF, if_neg (by rw [HL.out]; simp)]
      exact OwnI.nil _ _ _

end Go.Proofs.YtdhdodmpfbgliaaDoor

namespace Go.Proofs.YtdhdodmpfbgliaaDoor
open Go.RowKit Go.Deep

theorem news1At (w : World) (c : Int) (t : TypeId) {k : Nat} (hk : w.heap.size = k) : ∀ (j : Nat) (u : Value), [Value.int .i64 c][j]? = some u → (w.alloc (.cells #[.int .i64 c] t)).cell? ((⟨k, 0, none⟩ : Addr).add j) = some u := by
  subst hk
  exact news1 w c t
theorem run_make_cap (n : Nat) (hn : n ≤ 1099511627776) (w : World) :
    (Instr.makeSlice 27 (.int .i64 0) (.int .i64 (n : Int))).run Tryd.prog w = .ok (.slice (some ⟨w.heap.size, 0, none⟩) 0 n) (w.alloc (.cells (madeCells #[.int .i64 0] n) 3)) := by
  obtain ⟨i, hi, hz, hs, hb⟩ := info_parts intInfo
  have h := run_make (P := Tryd.prog) w 27 3 i _ Tryd.underlying27 hi hz .i64 .i64 (0 : Int) (n : Int) (by omega) (by omega) (by rw [hb]; omega) (by omega)
  rw [hs] at h
  simpa [Value.cells] using h

set_option maxRecDepth 100000 in
set_option maxHeartbeats 1000000 in
/-- impl.executionTimes. -/
theorem execTimes_any (ja : Option Addr) (jcap : Nat) (js : List J4) (w : World) (hj : RowJ w ja js) (hn : js.length ≤ 60) :
    Calls Tryd.prog 55 #[.slice ja js.length jcap] w fun e w' =>
      ∃ v, e = .returned v ∧ OwnI w' w.heap.size v js.length (fun k => (jb js k).2.2.2) ∧ Below w.heap.size w w' := by
  obtain ⟨i0, hi, hz, hsz, hby⟩ := info_parts intInfo
  have HI := Lib.hid (And.intro hi (And.intro hz (And.intro hsz hby)))
  clear hi hz hsz hby
  have HJ := Lib.hid hj
  clear hj
  have hmk := run_make_cap js.length (by omega)
  go_enter Tryd.func55, Tryd.ntmps55
  go_wp2
  clear hmk
  go_loopg [3, 11] js.length (fun m s i wr => ∃ k : Nat, m + k = js.length ∧ i = .int .i64 k ∧ OwnI wr w.heap.size s k (fun k => (jb js k).2.2.2) ∧ Below w.heap.size w wr)
  case atStart => exact ⟨0, rfl, rfl, World.ownsRow_made w _ js.length (Nat.le_refl _) (by unfold maxLen; omega) (by simp [size_madeCells]), below_box _ _⟩
  case round =>
    obtain ⟨k, hk, rfl, ho, B⟩ := hrel
    have HK := Lib.hid hk
    have HO := Lib.hid ho
    have hkk : k ≤ js.length := by omega
    clear hk ho
    by_cases hlt : k < js.length
    · have RJ := Lib.hid (HJ.out.below B)
      obtain ⟨bj, oj, rfl, hbj, x0, x1, x2, x3⟩ := RJ.out k hlt
      obtain ⟨⟨id, r, dl, c⟩, hJ⟩ : ∃ j, j = jb js k := ⟨_, rfl⟩
      rw [← hJ] at x0 x1 x2 x3
      simp only at x0 x1 x2 x3
      have HJK := Lib.hid hJ
      clear hJ
      have hk0 : (0 : Int) ≤ k := by omega
      have hk1 : (k : Int) < js.length := by omega
      go_wp2_with (at_builtin; refine wpList_append_own _ rfl (.tmp 15) (.tmp 18) 27 rfl w.heap.size 3 i0 _ 1 8 Tryd.underlying27 HI.out.1 HI.out.2.1 HI.out.2.2.1 HI.out.2.2.2 rfl (by decide) _ k (vals (fun k => (jb js k).2.2.2) k) rfl (World.ownsRow.alloc (World.ownsRow.alloc HO.out _) _) ⟨wr.heap.size + 1, 0, none⟩ 1 1 [.int .i64 c] rfl rfl (news1At (wr.alloc (.cells #[.int .i64 id, .int .i64 r, .int .i64 dl, .int .i64 c] 41)) _ _ (by simp)) (one1 _) (by unfold maxLen; omega) (by omega) (by have := B.size; simp; omega) ?_; intro v' w' hown' hgrow hnil)
      have B0 : Below w.heap.size w ((wr.alloc (.cells #[.int .i64 id, .int .i64 r, .int .i64 dl, .int .i64 c] 41)).alloc (.cells #[.int .i64 c] 3)) := (B.alloc B.size _).alloc (by have := B.size; simp; omega) _
      have B1 : Below w.heap.size w w' := B0.grown hgrow B0.size (fun k hk => HO.out.from k hk)
      have HO1 := Lib.hid (show OwnI w' w.heap.size v' (k + 1) (fun k => (jb js k).2.2.2) by unfold OwnI; rw [vals_succ]; rw [← HJK.out]; exact hown')
      clear hown' hgrow hnil B0
      go_roundg (gk - 1)
      case measure => have := HK.out; omega
      case rel => exact ⟨k + 1, by have := HK.out; omega, by go_num, HO1.out, B1⟩
    · obtain rfl : k = js.length := by omega
      go_wp2
      go_ret
      exact ⟨_, rfl, HO.out, B⟩

end Go.Proofs.YtdhdodmpfbgliaaDoor
