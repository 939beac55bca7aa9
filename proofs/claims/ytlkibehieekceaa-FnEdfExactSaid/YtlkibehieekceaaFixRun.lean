/- Contracts of spec.RunFixed and of the program's RunFixed. Conditions: the slices hold what is said; their lengths are at most 2^40. -/
import Derived.Test.YtlkibehieekceaaRunImpl
import Derived.Test.YtlkibehieekceaaOrdImpl
import Derived.Test.YtlkibehieekceaaFixSpec
namespace Go.Proofs.Ytlkibehieekceaa
open Go.RowKit Go.Deep

/-- A valid order and a legal pattern. -/
def okF (ts : List T3) (os : List Int) (js : List J4) : Bool := ordB ts os && legB ts js
def lenRF (ts : List T3) (os : List Int) (js : List J4) : Nat := if okF ts os js = true then 120 else 0
def lenFF (ts : List T3) (os : List Int) (js : List J4) : Nat := if okF ts os js = true then js.length else 0
/-- The simulation by the places of an order. -/
def fxP (os : List Int) (js : List J4) : Pat := fixP js (rk os)
def runX (os : List Int) (js : List J4) : Nat → Int := fun t => optI ((fxP os js).run t)
def finX (os : List Int) (js : List J4) : Nat → Int := fun i => (fxP os js).fin 120 i
/-- The schedule by priorities, in two slices of its own; the zero value for invalid arguments. -/
def FixSched (base : Nat) (ts : List T3) (os : List Int) (js : List J4) (e : Ending) (w' : World) : Prop :=
  ∃ vr vf, e = .returned (.agg #[vr, vf]) ∧ OwnI w' base vr (lenRF ts os js) (runX os js) ∧ OwnI w' base vf (lenFF ts os js) (finX os js) ∧ Apart vf vr
theorem okF_iff {ts : List T3} {os : List Int} {js : List J4} : okF ts os js = true ↔ ordB ts os = true ∧ legB ts js = true := by simp [okF]
theorem rk_place' {ts : List T3} {os : List Int} (h : ordB ts os = true) {k y : Nat} (hk : k < os.length) (hy : os.getD k 0 = (y : Int)) : rk os y = k := by
  have e : os[k]? = some (y : Int) := by
    rw [← hy, List.getD_eq_getElem?_getD, List.getElem?_eq_getElem hk]
    rfl
  have hm : (y : Int) ∈ os := List.mem_of_getElem? e
  exact (List.getElem?_inj (rk_lt hm) (ordB_iff.1 h).2.2.2).1 ((rk_at hm).trans e.symm)
theorem idF_rk {ts : List T3} {os : List Int} (h : ordB ts os = true) {i : Nat} (hi : i < ts.length) : idF (fun k => os.getD k 0) (i : Int) os.length = (rk os i : Nat) := by
  have hm := ord_all h hi
  refine idF_hit (fun j hj e => ?_) ?_ _ (rk_lt hm)
  · have := rk_place' h (by have := rk_lt hm; omega) e
    omega
  · rw [List.getD_eq_getElem?_getD, rk_at hm]
    rfl
theorem fx_fits {ts : List T3} {js : List J4} (h : legB ts js = true) (os : List Int) : Fits js (fxP os js) := by
  obtain ⟨h1, _⟩ := leg_fits h
  exact ⟨rfl, h1.rel, h1.ex⟩
theorem fx_ex {ts : List T3} {js : List J4} (h : legB ts js = true) (os : List Int) : ∀ k, k < js.length → 1 ≤ (fxP os js).ex k ∧ (fxP os js).ex k ≤ 1000 := leg_ex h
theorem jid_at {ts : List T3} {js : List J4} (h : legB ts js = true) {k : Nat} (hk : k < js.length) : jid js k < ts.length ∧ (jb js k).1 = (jid js k : Nat) := by
  have h1 := (legB_iff.1 h).2.2 k hk
  have h2 := h1.1
  unfold jid
  omega

set_option maxRecDepth 100000 in
set_option maxHeartbeats 2000000 in
/-- spec.RunFixed. -/
theorem specRunFixed_any (a oa ja : Option Addr) (cap ocap jcap : Nat) (ts : List T3) (os : List Int) (js : List J4) (w : World) (hr : Row w a ts) (ho : IntF w oa os.length fun k => os.getD k 0) (hj : RowJ w ja js) (hn : ts.length ≤ 1048576) (hc : os.length ≤ ocap) (hjn : js.length ≤ 1099511627776) :
    Calls Try.prog 39 #[.slice a ts.length cap, .slice oa os.length ocap, .slice ja js.length jcap] w fun e w' =>
      FixSched w.heap.size ts os js e w' ∧ Below w.heap.size w w' := by
  obtain ⟨i0, hi, hz, hsz, hby⟩ := info_parts intInfo
  have HI := Lib.hid (And.intro hi (And.intro hz (And.intro hsz hby)))
  clear hi hz hsz hby
  obtain ⟨W, hW⟩ : ∃ W, W = w.alloc (.cells #[.slice none 0 0, .slice none 0 0] 28) := ⟨_, rfl⟩
  have BW : Below w.heap.size w W := by rw [hW]; exact below_box _ _
  have sW : w.heap.size < W.heap.size := by rw [hW]; simp
  have q1 : W.cell? ⟨w.heap.size, 0, none⟩ = some (.slice none 0 0) := by rw [hW]; simp [go_sem]
  have q2 : W.cell? ⟨w.heap.size, 1, none⟩ = some (.slice none 0 0) := by rw [hW]; simp [go_sem]
  have q3 : W.frozen? ⟨w.heap.size, 0, none⟩ = false := by rw [hW]; simp [go_sem]
  have q4 : W.frozen? ⟨w.heap.size, 1, none⟩ = false := by rw [hW]; simp [go_sem]
  have HR := Lib.hid (hr.below BW)
  have HO := Lib.hid (ho.below BW)
  have HJ := Lib.hid (hj.below BW)
  have HW := Lib.hid hW
  clear hr ho hj hW
  have FIN : ∀ W1, Below W.heap.size W W1 → okF ts os js = false → FixSched w.heap.size ts os js (.returned (.agg #[.slice none 0 0, .slice none 0 0])) ((W1.setCell ⟨w.heap.size, 0, none⟩ (.slice none 0 0)).setCell ⟨w.heap.size, 1, none⟩ (.slice none 0 0)) ∧ Below w.heap.size w ((W1.setCell ⟨w.heap.size, 0, none⟩ (.slice none 0 0)).setCell ⟨w.heap.size, 1, none⟩ (.slice none 0 0)) := fun W1 B1 hk => by
    refine ⟨⟨_, _, rfl, ?_, ?_, Apart.nil _⟩, ((BW.trans (B1.mono BW.size)).setCell (Nat.le_refl _) _).setCell (Nat.le_refl _) _⟩
    · rw [lenRF, if_neg (by rw [hk]; simp)]
      exact OwnI.nil _ _ _
    · rw [lenFF, if_neg (by rw [hk]; simp)]
      exact OwnI.nil _ _ _
  have FIN := Lib.hid FIN
  cases hv : ordB ts os with
  | false =>
    have hk : okF ts os js = false := by rw [okF, hv]; rfl
    go_enter Try.func39, Try.ntmps39
    go_wp2_with fail
    rw [← HW.out]
    refine (specOrderValid_any _ _ _ _ _ _ _ HR.out HO.out hn hc).mono ?_
    rintro e w1 ⟨rfl, b1⟩
    rw [hv]
    have x1 := (b1.cell (p := ⟨w.heap.size, 0, none⟩) sW).trans q1
    have x2 := (b1.cell (p := ⟨w.heap.size, 1, none⟩) sW).trans q2
    have x3 := (b1.frozen (p := ⟨w.heap.size, 0, none⟩) sW).trans q3
    have x4 := (b1.frozen (p := ⟨w.heap.size, 1, none⟩) sW).trans q4
    clear q1 q2 q3 q4
    go_wp2
    refine bodyPost_ret (v := .agg #[.slice none 0 0, .slice none 0 0]) ?_ rfl (FIN.out _ b1 hk)
    simp [results, Try.results39, go_sem, x1, x2]
  | true =>
    have HV := Lib.hid hv
    cases hl : legB ts js with
    | false =>
      have hk : okF ts os js = false := by rw [okF, hl, Bool.and_false]
      go_enter Try.func39, Try.ntmps39
      go_wp2_with fail
      rw [← HW.out]
      refine (specOrderValid_any _ _ _ _ _ _ _ HR.out HO.out hn hc).mono ?_
      rintro e w1 ⟨rfl, b1⟩
      rw [hv]
      go_wp2_with fail
      refine (specJobsLegal_any _ _ _ _ _ _ _ (HR.out.below b1) (HJ.out.below b1) (by omega) hjn).mono ?_
      rintro e w2 ⟨rfl, b2⟩
      rw [hl]
      have b12 := b1.trans (b2.mono b1.size)
      have x1 := (b12.cell (p := ⟨w.heap.size, 0, none⟩) sW).trans q1
      have x2 := (b12.cell (p := ⟨w.heap.size, 1, none⟩) sW).trans q2
      have x3 := (b12.frozen (p := ⟨w.heap.size, 0, none⟩) sW).trans q3
      have x4 := (b12.frozen (p := ⟨w.heap.size, 1, none⟩) sW).trans q4
      clear q1 q2 q3 q4
      go_wp2
      refine bodyPost_ret (v := .agg #[.slice none 0 0, .slice none 0 0]) ?_ rfl (FIN.out _ b12 hk)
      simp [results, Try.results39, go_sem, x1, x2]
    | true =>
      have HL := Lib.hid hl
      have HK := Lib.hid (okF_iff.2 ⟨hv, hl⟩)
      have h60 := (legB_iff.1 hl).2.1
      have hn5 : os.length ≤ 5 := by have h1 := ordB_iff.1 hv; have := (sv_all h1.1).2; omega
      clear hl hv FIN
      go_enter Try.func39, Try.ntmps39
      go_wp2_with fail
      rw [← HW.out]
      refine (specOrderValid_any _ _ _ _ _ _ _ HR.out HO.out hn hc).mono ?_
      rintro e w1 ⟨rfl, b1⟩
      rw [HV.out]
      go_wp2_with fail
      refine (specJobsLegal_any _ _ _ _ _ _ _ (HR.out.below b1) (HJ.out.below b1) (by omega) hjn).mono ?_
      rintro e w2 ⟨rfl, b2⟩
      rw [HL.out]
      have b12 := b1.trans (b2.mono b1.size)
      have hs2 := b12.size
      clear b1 b2
      go_wp2
      go_loopg [7, 8] js.length (fun m s i wr => ∃ k : Nat, m + k = js.length ∧ i = .int .i64 k ∧ OwnI wr w2.heap.size s k (fun k => ((fxP os js).key k : Nat)) ∧ Below W.heap.size W wr ∧ Below w2.heap.size w2 wr)
      case atStart => exact ⟨0, rfl, rfl, OwnI.empty w2 _, b12.alloc hs2 _, below_box _ _⟩
      case round =>
        obtain ⟨k, hk, rfl, ho, B, B'⟩ := hrel
        have HKK := Lib.hid hk
        have HOW := Lib.hid ho
        have hkk : k ≤ js.length := by omega
        clear hk ho
        by_cases hlt : k < js.length
        · have RJ := Lib.hid (HJ.out.below B)
          obtain ⟨bj, oj, rfl, hbj, x0, _, _, _⟩ := RJ.out k hlt
          have hid := jid_at HL.out hlt
          rw [hid.2] at x0
          have HKEY := Lib.hid (show (fxP os js).key k = rk os (jid js k) from rfl)
          have CI := l4Index_any oa ocap os.length (fun k => os.getD k 0) ((jid js k : Nat) : Int) wr (HO.out.below B) (by omega)
          rw [idF_rk HV.out hid.1] at CI
          obtain ⟨t, ht⟩ : ∃ t, t = jid js k := ⟨_, rfl⟩
          rw [← ht] at x0 CI HKEY
          obtain ⟨r, hr⟩ : ∃ r, r = rk os t := ⟨_, rfl⟩
          rw [← hr] at CI HKEY
          have CI := Lib.hid CI
          clear ht hr hid
          have hk0 : (0 : Int) ≤ k := by omega
          have hk1 : (k : Int) < js.length := by omega
          go_wp2_with fail
          refine CI.out.mono ?_
          rintro e w3 ⟨rfl, rfl⟩
          go_wp2_with (at_builtin; refine wpList_append_own _ rfl (.tmp 27) (.tmp 35) 26 rfl w2.heap.size 3 i0 _ 1 8 Try.underlying26 HI.out.1 HI.out.2.1 HI.out.2.2.1 HI.out.2.2.2 rfl (by decide) _ k (vals (fun k => ((fxP os js).key k : Nat)) k) rfl (World.ownsRow.alloc HOW.out _) ⟨wr.heap.size, 0, none⟩ 1 1 [.int .i64 (r : Int)] rfl rfl (news1 _ _ _) (one1 _) (by unfold maxLen; omega) (by omega) (Nat.le_trans B'.size (below_box _ _).size) ?_; intro v' w' hown' hgrow hnil)
          have B1 : Below w2.heap.size w2 w' := (B'.trans ((below_box wr _).mono B'.size)).grown hgrow (Nat.le_trans B'.size (below_box _ _).size) (fun k hk => HOW.out.from k hk)
          have B2 : Below W.heap.size W w' := b12.trans (B1.mono hs2)
          have HO1 := Lib.hid (show OwnI w' w2.heap.size v' (k + 1) (fun k => ((fxP os js).key k : Nat)) by unfold OwnI; rw [vals_succ, HKEY.out]; exact hown')
          clear hown' hgrow hnil
          go_roundg (gk - 1)
          case measure => have := HKK.out; omega
          case rel => exact ⟨k + 1, by have := HKK.out; omega, by go_num, HO1.out, B2, B1⟩
        · obtain rfl : k = js.length := by omega
          obtain ⟨ka, kcap, rfl, hIF, _⟩ := HOW.out.intF
          have KF := Lib.hid hIF
          clear hIF
          go_wp2_with fail
          refine (l3Run_any _ _ _ _ js (fxP os js) _ (HJ.out.below B) KF.out (fx_fits HL.out os) (fun k hk => (fx_ex HL.out os k hk).2) h60).mono ?_
          rintro e w4 ⟨⟨vr, vf, rfl, o1, o2, ap⟩, b4⟩
          have B4 := B.trans (b4.mono B.size)
          have y1 := (B4.cell (p := ⟨w.heap.size, 0, none⟩) sW).trans q1
          have y2 := (B4.cell (p := ⟨w.heap.size, 1, none⟩) sW).trans q2
          have y3 := (B4.frozen (p := ⟨w.heap.size, 0, none⟩) sW).trans q3
          have y4 := (B4.frozen (p := ⟨w.heap.size, 1, none⟩) sW).trans q4
          obtain ⟨ar, capr, rfl⟩ := own_shape o1
          obtain ⟨af, capf, rfl⟩ := own_shape o2
          have BB := Lib.hid (BW.trans (B4.mono BW.size))
          have O := Lib.hid (And.intro o1 (And.intro o2 ap))
          have hlr : w.heap.size < wr.heap.size := Nat.lt_of_lt_of_le sW B.size
          clear o1 o2 ap q1 q2 q3 q4 b4 B4
          go_wp2
          refine bodyPost_ret (v := .agg #[.slice ar 120 capr, .slice af js.length capf]) ?_ rfl ⟨⟨_, _, rfl, ?_, ?_, O.out.2.2⟩, (BB.out.setCell (Nat.le_refl _) _).setCell (Nat.le_refl _) _⟩
          · simp [results, Try.results39, go_sem, y1, y2]
          · rw [lenRF, if_pos HK.out]
            exact ((O.out.1.other fun e => by have := (O.out.1.lt _ e).1; simp at this; omega).other fun e => by have := (O.out.1.lt _ e).1; simp at this; omega).mono (by omega)
          · rw [lenFF, if_pos HK.out]
            exact ((O.out.2.1.other fun e => by have := (O.out.2.1.lt _ e).1; simp at this; omega).other fun e => by have := (O.out.2.1.lt _ e).1; simp at this; omega).mono (by omega)

end Go.Proofs.Ytlkibehieekceaa
