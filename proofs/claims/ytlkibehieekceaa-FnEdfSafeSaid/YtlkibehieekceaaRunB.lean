/- Contract of spec.l3Run: the simulation by static keys. Conditions: the slices hold what is said, at most 60 jobs. -/
import Derived.Test.YtlkibehieekceaaMem
namespace Go.Proofs.Ytlkibehieekceaa
open Go.RowKit Go.Deep

/-- What a simulation of pattern P over js.length jobs returns: two slices of its own. -/
def Sched (base : Nat) (w' : World) (P : Pat) (n : Nat) (e : Ending) : Prop :=
  ∃ vr vf, e = .returned (.agg #[vr, vf]) ∧ OwnI w' base vr 120 (fun t => optI (P.run t)) ∧ OwnI w' base vf n (fun i => P.fin 120 i) ∧ Apart vf vr
/-- The jobs' integers and the pattern agree. -/
structure Fits (js : List J4) (P : Pat) : Prop where
  n : P.n = js.length
  rel : ∀ k, k < js.length → (jb js k).2.1 = P.rel k
  ex : ∀ k, k < js.length → (jb js k).2.2.2 = P.ex k
theorem sb_start (B : Nat) (w : World) (hB : B = w.heap.size) (fr ff fl : Nat → Int) :
    SB B w (((w.alloc (.cells #[.slice none 0 0, .slice none 0 0] 28)).alloc (.cells #[.slice none 0 0, .slice none 0 0] 28)).alloc (.cells #[] 3)) (.slice none 0 0) (.slice none 0 0) (.slice (some ⟨B + 2, 0, none⟩) 0 0) 0 0 0 fr ff fl := by
  subst hB
  have e : w.heap.size + 2 = ((w.alloc (.cells #[.slice none 0 0, .slice none 0 0] 28)).alloc (.cells #[.slice none 0 0, .slice none 0 0] 28)).heap.size := by simp
  have hne : ¬ w.heap.size = w.heap.size + 1 := by omega
  refine ⟨by simp [go_sem], by simp [go_sem], by simp [go_sem], by simp [go_sem], by simp [go_sem], by simp [go_sem], by simp [go_sem], by simp [go_sem], ?_, OwnI.nil _ _ _, OwnI.nil _ _ _, ?_, ?_, Apart.nil _, ?_, by simp⟩
  · rw [e]; exact OwnI.empty _ _
  · exact (Apart.nil _).symm
  · exact (Apart.nil _).symm
  · exact (((below_box _ _).alloc (by simp) _).alloc (by simp <;> omega) _)

set_option maxRecDepth 100000 in
set_option maxHeartbeats 2000000 in
/-- spec.l3Run. -/
theorem l3Run_any (ja ka : Option Addr) (jcap kcap : Nat) (js : List J4) (P : Pat) (w : World) (hj : RowJ w ja js) (hk : IntF w ka js.length fun k => P.key k) (hP : Fits js P) (hx : ∀ k, k < js.length → P.ex k ≤ 1000) (hn : js.length ≤ 60) :
    Calls Try.prog 45 #[.slice ja js.length jcap, .slice ka js.length kcap] w fun e w' =>
      Sched w.heap.size w' P js.length e ∧ Below w.heap.size w w' := by
  obtain ⟨i0, hi, hz, hsz, hby⟩ := info_parts intInfo
  have HI := Lib.hid (And.intro hi (And.intro hz (And.intro hsz hby)))
  clear hi hz hsz hby
  have HJ := Lib.hid hj
  have HKY := Lib.hid hk
  have HF := Lib.hid hP
  have HX := Lib.hid hx
  clear hj hk hP hx
  go_enter Try.func45, Try.ntmps45
  go_wp2
  go_loopg [6, 7] js.length (fun m s i wr => ∃ (k : Nat) (vf : Value), m + k = js.length ∧ i = .int .i64 k ∧ SB w.heap.size w wr (.slice none 0 0) vf s 0 k k (fun t => optI (P.run t)) (fun _ => -1) (fun i => (jb js i).2.2.2))
  case atStart => exact ⟨0, .slice none 0 0, rfl, rfl, sb_start _ w rfl _ _ _⟩
  case round =>
    obtain ⟨k, vf, hk, rfl, hsb⟩ := hrel
    have HK := Lib.hid hk
    have HS := Lib.hid hsb
    have hkk : k ≤ js.length := by omega
    clear hk hsb
    by_cases hlt : k < js.length
    · have RJ := Lib.hid (HJ.out.below (w' := wr) (by have := HS.out.bl; exact this))
      obtain ⟨bj, oj, rfl, hbj, _, _, _, x3⟩ := RJ.out k hlt
      obtain ⟨c, hc⟩ : ∃ c, c = (jb js k).2.2.2 := ⟨_, rfl⟩
      rw [← hc] at x3
      have HC := Lib.hid hc
      clear hc
      have hk0 : (0 : Int) ≤ k := by omega
      have hk1 : (k : Int) < js.length := by omega
      go_wp2_with (first
        | (at_builtin; refine wpList_append_at _ rfl (.tmp 18) (.tmp 24) 26 rfl (w.heap.size + 2) 3 i0 _ 1 8 Try.underlying26 HI.out.1 HI.out.2.1 HI.out.2.2.1 HI.out.2.2.2 rfl (by decide) _ k (vals (fun i => (jb js i).2.2.2) k) rfl (World.ownsRow.alloc HS.out.ol _) ⟨wr.heap.size, 0, none⟩ 1 1 [.int .i64 c] rfl rfl (news1 _ _ _) (one1 _) (by unfold maxLen; omega) (by omega) (by have := HS.out.sz; simp; omega) (by decide) ?_; intro v1 w1 ho1 hg1 hp1 hn1; have HS1 := Lib.hid ((HS.out.below (below_box _ _)).pushL ho1 HC.out hg1 hp1); have s0 := HS1.out.c1; clear ho1 hg1 hp1 hn1)
        | (at_builtin; refine wpList_append_at _ rfl (.tmp 27) (.tmp 28) 26 rfl (w.heap.size + 2) 3 i0 _ 1 8 Try.underlying26 HI.out.1 HI.out.2.1 HI.out.2.2.1 HI.out.2.2.2 rfl (by decide) vf k (vals (fun _ => -1) k) rfl (World.ownsRow.alloc HS1.out.of _) ⟨w1.heap.size, 0, none⟩ 1 1 [.int .i64 (-1)] rfl rfl (news1 _ _ _) (one1 _) (by unfold maxLen; omega) (by omega) (by have := HS1.out.sz; simp; omega) (by decide) ?_; intro v2 w2 ho2 hg2 hp2 hn2; obtain ⟨a2, cap2, rfl⟩ := own_shape ho2; obtain ⟨_, s1, s2, s3, s4⟩ := (HS1.out.below (below_box _ _)).cells hg2 (fun k hk => (HS1.out.of.lt k hk).1); have HS2 := Lib.hid ((HS1.out.below (below_box _ _)).pushF ho2 rfl hg2 hp2); clear ho2 hg2 hp2 hn2))
      go_roundg (gk - 1)
      case measure => have := HK.out; omega
      case rel => exact ⟨k + 1, _, by have := HK.out; omega, by go_num, HS2.out⟩
    · obtain rfl : k = js.length := by omega
      obtain ⟨la, lcap, rfl, _⟩ := HS.out.ol.intF
      have H0 := Lib.hid (HS.out.congr (fr' := fun t => optI (P.run t)) (ff' := fun i => P.fin 0 i) (fl' := fun i => (P.left 0 i : Nat)) (fun _ _ => rfl) (fun _ _ => rfl) (fun i hi => HF.out.ex i hi))
      clear HS
      go_wp2
      go_loopg [8] 120 (fun m i wr => ∃ (t : Nat) (vr vf : Value), m + t = 120 ∧ i = .int .i64 t ∧ SB w.heap.size w wr vr vf (.slice la js.length lcap) t js.length js.length (fun t => optI (P.run t)) (fun i => P.fin t i) (fun i => (P.left t i : Nat)))
      case atStart => exact ⟨0, _, _, rfl, rfl, H0.out⟩
      case round =>
        clear H0 HK
        obtain ⟨t, vr, vf, hk, rfl, hsb⟩ := hrel
        have HK := Lib.hid hk
        have HS := Lib.hid hsb
        have htt : t ≤ 120 := by omega
        clear hk hsb hkk hlt
        by_cases hlt : t < 120
        · have hlt' : (t : Int) < 120 := by omega
          go_wp2_with fail
          refine (l3Best_any _ _ _ _ _ _ js P.rel (P.left t) P.key t _ (HJ.out.below HS.out.bl) HF.out.rel (HS.out.ol.intF') (HKY.out.below HS.out.bl) hn).mono ?_
          rintro e w1 ⟨rfl, b1⟩
          have HS1 := Lib.hid (HS.out.below b1)
          rw [show best P.rel (P.left t) P.key t js.length = P.run t by rw [← HF.out.n]; rfl]
          clear HS
          have t0 := HS1.out.c0
          cases hr : P.run t with
          | none =>
            simp only [optI]
            go_wp2_with (at_builtin; refine wpList_append_at _ rfl (.tmp 41) (.tmp 43) 26 rfl (w.heap.size + 2) 3 i0 _ 1 8 Try.underlying26 HI.out.1 HI.out.2.1 HI.out.2.2.1 HI.out.2.2.2 rfl (by decide) vr t (vals (fun t => optI (P.run t)) t) rfl (World.ownsRow.alloc HS1.out.or _) ⟨w1.heap.size, 0, none⟩ 1 1 [.int .i64 (-1)] rfl rfl (news1 _ _ _) (one1 _) (by unfold maxLen; omega) (by omega) (by have := HS1.out.sz; simp; omega) (by decide) ?_; intro v2 w2 ho2 hg2 hp2 hn2; obtain ⟨a2, cap2, rfl⟩ := own_shape ho2; obtain ⟨_, s1, s2, s3, s4⟩ := (HS1.out.below (below_box _ _)).cells hg2 (fun k hk => (HS1.out.or.lt k hk).1); have HRN := Lib.hid hr; have HS2 := Lib.hid ((HS1.out.below (below_box _ _)).pushR ho2 (by rw [hr]; rfl) hg2 hp2); clear ho2 hg2 hp2 hn2 hr)
            go_roundg (gk - 1)
            case measure => have := HK.out; omega
            case rel => exact ⟨t + 1, _, vf, by have := HK.out; omega, by go_num, HS2.out.congr (fun _ _ => rfl) (fun i _ => by rw [Pat.fin_succ, if_neg (by rw [HRN.out]; simp)]) (fun i _ => by rw [Pat.left_succ, if_neg (by rw [HRN.out]; simp)])⟩
          | some b =>
            obtain ⟨hbn, hbr, hbl⟩ := Pat.run_pos hr
            rw [HF.out.n] at hbn
            have hx1 := HX.out b hbn
            have hle := P.left_ex t b
            obtain ⟨l, hl⟩ : ∃ l, l = P.left t b := ⟨_, rfl⟩
            rw [← hl] at hbl hle
            obtain ⟨gl, lcap', hla, hgl, hgl2, _, zl, yl⟩ := HS1.out.ol.at (by omega)
            simp only [Value.slice.injEq] at hla
            obtain ⟨rfl, _, rfl⟩ := hla
            obtain ⟨gf, fcap, rfl, hgf, hgf2, _, zf, yf⟩ := HS1.out.of.at (by omega)
            have hap : gl ≠ gf := fun e => HS1.out.a1 gl rfl (by rw [e]; rfl)
            have ylb := yl b hbn
            have zlb := zl b
            have yfb := yf b hbn
            have zfb := zf b
            rw [← hl] at ylb
            have HL := Lib.hid hl
            have HRN := Lib.hid hr
            clear hl hr yl zl yf zf hbr
            simp only [optI]
            obtain ⟨m, rfl⟩ : ∃ m, l = m + 1 := ⟨l - 1, by omega⟩
            have hn1 : w.heap.size + 1 ≠ gl := by omega
            have hn2 : w.heap.size + 1 ≠ gf := by omega
            have hb0 : (0 : Int) ≤ b := by omega
            have hb1 : (b : Int) < js.length := by omega
            by_cases hm : m = 0
            · subst hm
              go_wp2_with (at_builtin; refine wpList_append_at _ rfl (.tmp 41) (.tmp 43) 26 rfl (w.heap.size + 2) 3 i0 _ 1 8 Try.underlying26 HI.out.1 HI.out.2.1 HI.out.2.2.1 HI.out.2.2.2 rfl (by decide) vr t (vals (fun t => optI (P.run t)) t) rfl (World.ownsRow.alloc HS1.out.or _) ⟨w1.heap.size, 0, none⟩ 1 1 [.int .i64 (b : Int)] rfl rfl (news1 _ _ _) (one1 _) (by unfold maxLen; omega) (by omega) (by have := HS1.out.sz; simp; omega) (by decide) ?_; intro v2 w2 ho2 hg2 hp2 hn2; obtain ⟨a2, cap2, rfl⟩ := own_shape ho2; obtain ⟨_, s1, s2, s3, s4⟩ := (HS1.out.below (below_box _ _)).cells hg2 (fun k hk => (HS1.out.or.lt k hk).1); obtain ⟨q1, q2, _⟩ := OwnI.cellAt ((HS1.out.ol.alloc _).grown hg2 HS1.out.a2) hbn; obtain ⟨q3, q4, _⟩ := OwnI.cellAt ((HS1.out.of.alloc _).grown hg2 HS1.out.a3) hbn; (try simp only at q1); rw [← HL.out] at q1; have HS2 := Lib.hid ((HS1.out.below (below_box _ _)).pushR ho2 (by rw [HRN.out]; rfl) hg2 hp2); clear ho2 hg2 hp2 hn2)
              go_roundg (gk - 1)
              case measure => have := HK.out; omega
              case rel => exact ⟨t + 1, _, _, by have := HK.out; omega, by go_num, ((HS2.out.setL hbn 0).setF hbn (t + 1)).congr (fun _ _ => rfl)
                (fun i _ => by
                  rw [Pat.fin_succ, Pat.left_succ, HRN.out]
                  by_cases e : i = b
                  · subst e; rw [← HL.out]; simp
                  · simp [e, show ¬ b = i from fun h => e h.symm])
                (fun i _ => by
                  rw [Pat.left_succ, HRN.out]
                  by_cases e : i = b
                  · subst e; rw [← HL.out]; simp
                  · simp [e, show ¬ b = i from fun h => e h.symm])⟩
            · have hm' : ((m : Int) == 0) = false := by simp; omega
              go_wp2_with (at_builtin; refine wpList_append_at _ rfl (.tmp 41) (.tmp 43) 26 rfl (w.heap.size + 2) 3 i0 _ 1 8 Try.underlying26 HI.out.1 HI.out.2.1 HI.out.2.2.1 HI.out.2.2.2 rfl (by decide) vr t (vals (fun t => optI (P.run t)) t) rfl (World.ownsRow.alloc HS1.out.or _) ⟨w1.heap.size, 0, none⟩ 1 1 [.int .i64 (b : Int)] rfl rfl (news1 _ _ _) (one1 _) (by unfold maxLen; omega) (by omega) (by have := HS1.out.sz; simp; omega) (by decide) ?_; intro v2 w2 ho2 hg2 hp2 hn2; obtain ⟨a2, cap2, rfl⟩ := own_shape ho2; obtain ⟨_, s1, s2, s3, s4⟩ := (HS1.out.below (below_box _ _)).cells hg2 (fun k hk => (HS1.out.or.lt k hk).1); obtain ⟨q1, q2, _⟩ := OwnI.cellAt ((HS1.out.ol.alloc _).grown hg2 HS1.out.a2) hbn; obtain ⟨q3, q4, _⟩ := OwnI.cellAt ((HS1.out.of.alloc _).grown hg2 HS1.out.a3) hbn; (try simp only at q1); rw [← HL.out] at q1; have HS2 := Lib.hid ((HS1.out.below (below_box _ _)).pushR ho2 (by rw [HRN.out]; rfl) hg2 hp2); clear ho2 hg2 hp2 hn2)
              go_roundg (gk - 1)
              case measure => have := HK.out; omega
              case rel => exact ⟨t + 1, _, _, by have := HK.out; omega, by go_num, (HS2.out.setL hbn m).congr (fun _ _ => rfl)
                (fun i _ => by
                  rw [Pat.fin_succ, Pat.left_succ, HRN.out]
                  by_cases e : i = b
                  · subst e; rw [← HL.out]; simp [hm]
                  · simp [show ¬ b = i from fun h => e h.symm])
                (fun i _ => by
                  rw [Pat.left_succ, HRN.out]
                  by_cases e : i = b
                  · subst e; rw [← HL.out]; simp
                  · simp [e, show ¬ b = i from fun h => e h.symm])⟩
        · obtain rfl : t = 120 := by omega
          obtain ⟨ar, capr, rfl⟩ := own_shape HS.out.or
          obtain ⟨af, capf, rfl⟩ := own_shape HS.out.of
          have c0 := HS.out.c0
          have c1 := HS.out.c1
          have r0 := HS.out.r0
          have r1 := HS.out.r1
          have g0 := HS.out.g0
          have g1 := HS.out.g1
          go_wp2
          refine bodyPost_ret (v := .agg #[.slice ar 120 capr, .slice af js.length capf]) ?_ rfl ⟨⟨_, _, rfl, ?_, ?_, HS.out.a3⟩, (HS.out.bl.setCell (Nat.le_refl _) _).setCell (Nat.le_refl _) _⟩
          · simp [results, Try.results45, go_sem, r0, r1]
          · exact ((HS.out.or.other fun e => by have := (HS.out.or.lt _ e).1; simp at this; omega).other fun e => by have := (HS.out.or.lt _ e).1; simp at this; omega).mono (by omega)
          · exact ((HS.out.of.other fun e => by have := (HS.out.of.lt _ e).1; simp at this; omega).other fun e => by have := (HS.out.of.lt _ e).1; simp at this; omega).mono (by omega)

end Go.Proofs.Ytlkibehieekceaa
