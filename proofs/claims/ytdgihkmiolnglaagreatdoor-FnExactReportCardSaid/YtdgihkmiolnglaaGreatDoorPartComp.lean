/- Contracts of the program's assignment.completions, a recursive iterator, and of firstOf over it: the first complete assignment. Conditions: the slices hold what is said; what each theorem names. -/
import Derived.Test.YtdgihkmiolnglaaGreatDoorPartIter
namespace Go.Proofs.YtdgihkmiolnglaaGreatDoor
open Go.RowKit Go.Deep

attribute [local go_sem] Oper.semAt_some

/-- What is handed out: a slice, and what it holds. -/
abbrev Hdr := (Option Addr × Nat × Nat) × List Nat
def encH (x : Hdr) : Array Value := #[.slice x.1.1 x.1.2.1 x.1.2.2]
def KnH (base : Nat) (x : Hdr) (W : World) : Prop := OwnI W base (.slice x.1.1 x.1.2.1 x.1.2.2) x.2.length (nz x.2)
def GivesC (ts : List T3) (N base m : Nat) (gs : List Nat) (ba bs bc : Nat) (w : World) : Prop :=
  Gives1 Tryz.prog 102 #[.pointer (some ⟨ba, 0, none⟩), .pointer (some ⟨bs, 0, none⟩), .pointer (some ⟨bc, 0, none⟩)] encH (KnH base) (fstC ts N m gs = none) (fun x => fstC ts N m gs = some x.2) w
theorem owni_kept {A B : World} {row : Option Nat} {base n : Nat} {v : Value} {f : Nat → Int} (h : OwnI A base v n f) (hg : A.grownBy B row) (hr : ∀ r, row = some r → ∃ o : Obj, A.heap[r]? = some o ∧ o.isCells = false) : OwnI B base v n f := by
  refine World.ownsRow.kept h hg ?_
  rcases h.2 with ⟨rfl, _⟩ | ⟨g, cap, cur, rfl, _, hgb, _⟩
  · exact .inl rfl
  · refine .inr fun e => ?_
    obtain ⟨o, ho, hc⟩ := hr g (by simpa [Value.ownBlock] using e.symm)
    rw [hgb] at ho
    cases ho
    cases hc
theorem knH_own (base : Nat) (x : Hdr) (B : Nat) : OwnFrom B (fun (_ : Unit) W => KnH base x W) := fun _ _ _ _ hs hg hr => owni_kept hs hg (fun r e => (hr r e).2)
theorem ownFrom_up {β : Type} {B B' : Nat} {I : β → World → Prop} (h : OwnFrom B I) (hb : B ≤ B') : OwnFrom B' I := fun s A C row hs hg hr => h s A C row hs hg (fun r e => ⟨Nat.le_trans hb (hr r e).1, (hr r e).2⟩)
theorem ownFrom_ex {β γ : Type} {B : Nat} {I : γ → β → World → Prop} (h : ∀ x, OwnFrom B (I x)) : OwnFrom B (fun s W => ∃ x, I x s W) := fun s A C row ⟨x, hs⟩ hg hr => ⟨x, h x s A C row hs hg hr⟩
theorem ownFrom_const {β γ : Type} {B : Nat} {I : γ → World → Prop} (h : OwnFrom B I) (x : γ) : OwnFrom B (fun (_ : β) W => I x W) := fun _ A C row hs hg hr => h x A C row hs hg hr
theorem roundRound {m m' l l2 : Nat} {P : Program} {f : FuncId} {tmps : Array Value} {assign body : Code} {w : World} {R : Ending → World → Prop} (h : RoundIn Fence.wide m P l f tmps assign body w R) : RoundIn (Fence.wide.inRound l2) m' P l f tmps assign body w R := roundAny h
theorem below_keeps {A C : World} (B : Nat) (h : Below A.heap.size A C) : KeepsFrom B A C := ⟨h.size, fun k _ _ hk _ => (h.block k (Array.getElem?_eq_some_iff.1 hk).1).trans hk⟩

/-- impl.assignment.completions: three boxes and a closure. -/
theorem completions_any (oa sa : Option Addr) (k ocap m cap : Nat) (n : Int) (w : World) :
    Calls Tryz.prog 74 #[.slice oa k ocap, .slice sa m cap, .int .i64 n] w fun e w' => e = .returned (.func (.func 102) #[] #[.pointer (some ⟨w.heap.size, 0, none⟩), .pointer (some ⟨w.heap.size + 1, 0, none⟩), .pointer (some ⟨w.heap.size + 2, 0, none⟩)]) ∧
      w' = box3 w (.slice oa k ocap) (.slice sa m cap) n := by
  go_enter Tryz.func74, Tryz.ntmps74
  go_wp2
  go_ret
  exact ⟨rfl, rfl⟩

set_option maxRecDepth 100000 in
set_option maxHeartbeats 2000000 in
/-- All tasks are placed: the assignment itself comes. -/
theorem comp_zero (ts : List T3) (N base : Nat) (gs : List Nat) (ba bs bc : Nat) (oa sa : Option Addr) (ocap cap : Nat) (w : World) (hl : gs.length = ts.length) (ha : w.cell? ⟨ba, 0, none⟩ = some (.slice oa gs.length ocap)) (hs : w.cell? ⟨bs, 0, none⟩ = some (.slice sa ts.length cap)) (ho : OwnI w base (.slice oa gs.length ocap) gs.length (nz gs)) :
    GivesC ts N base 0 gs ba bs bc w := by
  intro l X W hW hX hY
  have hba := World.block_lt_of_cell? w _ ha
  have hbs := World.block_lt_of_cell? w _ hs
  have hw0 : Below w.heap.size w (W.alloc (.cells #[.func (.yield l) #[] #[]] 114)) := hW.trans ((below_box W _).mono hW.size)
  have c1 := (hw0.cell (p := ⟨ba, 0, none⟩) hba).trans ha
  have c2 := (hw0.cell (p := ⟨bs, 0, none⟩) hbs).trans hs
  have HX := Lib.hid hX
  obtain ⟨fn, tmps, assign, body, hy, hR⟩ := hY ((oa, gs.length, ocap), gs) (W.alloc (.cells #[.func (.yield l) #[] #[]] 114)) (below_box W _) (ho.below (hW.trans ((below_box W _).mono hW.size)))
  dsimp only [encH] at hy
  rw [hl] at c1 hy
  have HRR := Lib.hid hR
  clear hW hw0 hY hX hba hbs ha hs ho hR
  refine (callsIn_wide (n := 3)).1 ?_
  refine callsIn_of_wp Tryz.func102 rfl trivial ?_ rfl
  simp only [Tryz.ntmps102, List.size_toArray, List.length_cons, List.length_nil, Nat.reduceAdd, Nat.reduceSub, Array.replicate_succ, Array.replicate_zero, List.push_toArray, List.append_toArray, List.nil_append, List.cons_append]
  gi_wp2_with fail
  refine (roundAny HRR.out).mono ?_
  rintro e w5 ⟨rfl, -, hx5⟩
  have HX5 := Lib.hid hx5
  clear hx5
  gi_wp2
  refine bodyPost_ret (results_none rfl _ _ _) rfl ?_
  exact ⟨⟨_, rfl⟩, .inr ⟨_, rfl, HX5.out⟩⟩

/-- Once one of the processors leads on. -/
theorem fst_here {ts : List T3} {N m : Nat} {gs pre p0 : List Nat} {c0 : Nat} {r : List Nat} (h : pre <+: fitL ts N (nz gs) gs.length) (e : pre = p0 ++ [c0]) (h0 : ∀ c, c ∈ p0 → fstC ts N m (gs ++ [c]) = none) (h1 : fstC ts N m (gs ++ [c0]) = some r) : fstC ts N (m + 1) gs = some r := by
  obtain ⟨y, hy⟩ := h
  subst e
  simp only [fstC]
  rw [← hy, List.findSome?_append, List.findSome?_append, List.findSome?_eq_none_iff.2 h0]
  simp [h1]
theorem fst_none {ts : List T3} {N m : Nat} {gs : List Nat} (h0 : ∀ c, c ∈ fitL ts N (nz gs) gs.length → fstC ts N m (gs ++ [c]) = none) : fstC ts N (m + 1) gs = none := by
  simp only [fstC]
  exact List.findSome?_eq_none_iff.2 h0
/-- What is known where a round has left. -/
def FstAt (ts : List T3) (N m : Nat) (gs pre : List Nat) (x : Hdr) : Prop := ∃ (p0 : List Nat) (c0 : Nat), pre = p0 ++ [c0] ∧ (∀ c, c ∈ p0 → fstC ts N m (gs ++ [c]) = none) ∧ fstC ts N m (gs ++ [c0]) = some x.2

set_option maxRecDepth 100000 in
set_option maxHeartbeats 8000000 in
/-- One task more. -/
theorem comp_succ (ts : List T3) (N base m cap : Nat) (sa : Option Addr) (hv : svB ts = true) (hN : N ≤ 5)
    (ih : ∀ (gs : List Nat) (ba bs bc : Nat) (oa : Option Addr) (ocap : Nat) (w : World), gs.length + m = ts.length → w.cell? ⟨ba, 0, none⟩ = some (.slice oa gs.length ocap) → w.cell? ⟨bs, 0, none⟩ = some (.slice sa ts.length cap) → w.cell? ⟨bc, 0, none⟩ = some (.int .i64 (N : Int)) → Row w sa ts → OwnI w base (.slice oa gs.length ocap) gs.length (nz gs) → base ≤ w.heap.size → GivesC ts N base m gs ba bs bc w)
    (gs : List Nat) (ba bs bc : Nat) (oa : Option Addr) (ocap : Nat) (w : World) (hl : gs.length + (m + 1) = ts.length) (ha : w.cell? ⟨ba, 0, none⟩ = some (.slice oa gs.length ocap)) (hs : w.cell? ⟨bs, 0, none⟩ = some (.slice sa ts.length cap)) (hc : w.cell? ⟨bc, 0, none⟩ = some (.int .i64 (N : Int))) (hr : Row w sa ts) (ho : OwnI w base (.slice oa gs.length ocap) gs.length (nz gs)) (hbase : base ≤ w.heap.size) :
    GivesC ts N base (m + 1) gs ba bs bc w := by
  intro l X W hW hX hY
  have hl5 : ts.length ≤ 5 := (sv_all hv).2
  have hba := World.block_lt_of_cell? w _ ha
  have hbs := World.block_lt_of_cell? w _ hs
  have hbc := World.block_lt_of_cell? w _ hc
  have hBW0 : Below W.heap.size W (W.alloc (.cells #[.func (.yield l) #[] #[]] 114)) := below_box W _
  have hyb := Boxed.new W 114 (.func (.yield l) #[] #[])
  have hsz0 : (W.alloc (.cells #[.func (.yield l) #[] #[]] 114)).heap.size = W.heap.size + 1 := by simp
  have hw0 : Below w.heap.size w (W.alloc (.cells #[.func (.yield l) #[] #[]] 114)) := hW.trans (hBW0.mono hW.size)
  have c1 := (hw0.cell (p := ⟨ba, 0, none⟩) hba).trans ha
  have c2 := (hw0.cell (p := ⟨bs, 0, none⟩) hbs).trans hs
  have c3 := (hw0.cell (p := ⟨bc, 0, none⟩) hbc).trans hc
  obtain ⟨W0, hW0⟩ : ∃ W0, W0 = W.alloc (.cells #[.func (.yield l) #[] #[]] 114) := ⟨_, rfl⟩
  have HW := Lib.hid hW
  have HWZ := Lib.hid (show Below W.heap.size W W0 by rw [hW0]; exact hBW0)
  have HW0 := Lib.hid (show Below w.heap.size w W0 by rw [hW0]; exact hw0)
  have HYB := Lib.hid (show Boxed W0 W.heap.size 114 (.func (.yield l) #[] #[]) ∧ W.heap.size < W0.heap.size by rw [hW0]; exact ⟨hyb, by simp⟩)
  have HXX := Lib.hid hX
  have HY := Lib.hid hY
  have HR := Lib.hid (show Row W0 sa ts by rw [hW0]; exact hr.below hw0)
  have HO := Lib.hid (show OwnI W0 base (.slice oa gs.length ocap) gs.length (nz gs) by rw [hW0]; exact ho.below hw0)
  have HLT := Lib.hid (show ba < w.heap.size ∧ bs < w.heap.size ∧ bc < w.heap.size from ⟨hba, hbs, hbc⟩)
  have HC := Lib.hid (And.intro ha (And.intro hs hc))
  have HV := Lib.hid hv
  have HL := Lib.hid hl
  have HIH := Lib.hid ih
  have hg4 : gs.length ≤ 999 := by omega
  have HK := Lib.hid (show gs.length < ts.length by omega)
  have hne : ((gs.length : Int) == (ts.length : Int)) = false := beq_eq_false_iff_ne.2 (by omega)
  refine (callsIn_wide (n := 5)).1 ?_
  refine callsIn_of_wp_marks Tryz.func102 rfl trivial ?_ rfl
  simp only [Tryz.ntmps102, List.size_toArray, List.length_cons, List.length_nil, Nat.reduceAdd, Nat.reduceSub, Array.replicate_succ, Array.replicate_zero, List.push_toArray, List.append_toArray, List.nil_append, List.cons_append]
  clear hW hX hY hr ho ha hs hc hv hl ih hyb hBW0 hw0 hba hbs hbc hsz0
  gi_wp2_with fail
  rw [← hW0]
  refine ⟨trivial, (callsIn_wide.2 (fitting_any oa sa gs.length ocap ts.length cap (N : Int) W0)).mono ?_⟩
  rintro e Wf ⟨rfl, hWf⟩
  have HXF := Lib.hid (by have := box3_at W0 (.slice oa gs.length ocap) (.slice sa ts.length cap) (N : Int); rw [← hWf] at this; exact this)
  clear hWf c1 c2 c3 hW0
  gi_wp2
  refine wpIn_rangeFunc_ownH rfl (by decide) (gf := 122) (lb := #[.pointer (some ⟨W0.heap.size + 2, 0, none⟩), .pointer (some ⟨W0.heap.size, 0, none⟩), .pointer (some ⟨W0.heap.size + 1, 0, none⟩)]) rfl trivial (enters_of Tryz.func122 (by kernel_rfl) rfl)
    (fit_stops (5 - 1) (W0.heap.size + 2) W0.heap.size (W0.heap.size + 1) oa sa gs.length ocap cap N ts (nz gs) Wf HXF.out.2.2.1.cell HXF.out.1.cell HXF.out.2.1.cell (HR.out.below HXF.out.2.2.2.1) (HO.out.below HXF.out.2.2.2.1).intF' HK.out (by omega) hN) belowK_t (belowK_b (Nat.le_refl _)) (Below.refl _ _) (fun _ => rfl)
    (fun pre W' => (∀ c, c ∈ pre → fstC ts N m (gs ++ [c]) = none) ∧ Below Wf.heap.size Wf W')
    (fun c pre W' => c = .ret ∧ ∃ x, FstAt ts N m gs pre x ∧ X x W')
    (OwnFrom.and (ownFrom_pure _ _) (ownFrom_below (Nat.le_refl _) (Nat.le_refl _)))
    (fun c => OwnFrom.and (ownFrom_pure _ _) (ownFrom_ex fun x => OwnFrom.and (ownFrom_pure _ _) (ownFrom_const (ownFrom_up HXX.out (by have := HXF.out.2.2.2.2; have := HYB.out.2; omega)) x)))
    ⟨fun c h => by simp at h, Below.refl _ _⟩
    (fun c a' _ => a' = { tmps := #[.func (.yield l) #[] #[], .pointer (some ⟨ba, 0, none⟩), .pointer (some ⟨bs, 0, none⟩), .pointer (some ⟨bc, 0, none⟩), .pointer (some ⟨W.heap.size, 0, none⟩), .int .i64 (c : Int), undef, .slice oa gs.length ocap, .int .i64 (gs.length : Int), .slice sa ts.length cap, .int .i64 (ts.length : Int), .bool false, undef, undef, undef, .slice oa gs.length ocap, .slice sa ts.length cap, .int .i64 (N : Int), .func (.func 122) #[] #[.pointer (some ⟨W0.heap.size + 2, 0, none⟩), .pointer (some ⟨W0.heap.size, 0, none⟩), .pointer (some ⟨W0.heap.size + 1, 0, none⟩)], .int .i64 (c : Int), undef, undef, undef, undef, undef, undef, undef, undef, undef, undef, undef], defers := [] })
    (fun _ _ _ _ _ _ hs _ _ => hs) ?assign ?body ?done ?stop
  case assign =>
    rintro l1 pre c W1 K hi hK
    gi_wp2
    exact hK _ _ (KeepsFrom.refl _ _) (Below.refl _ _) hi rfl
  case body =>
    rintro l1 pre c a' W1 hl1 ⟨r1, hr1⟩ ⟨hno, hB1⟩ rfl hlen
    have HL1 := Lib.hid hr1
    have HNO := Lib.hid hno
    have HBW := Lib.hid hB1
    have HB01 := Lib.hid (show Below W0.heap.size W0 W1 from HXF.out.2.2.2.1.trans (hB1.mono HXF.out.2.2.2.1.size))
    have HB0w := Lib.hid (show Below w.heap.size w W1 from HW0.out.trans (HB01.out.mono HW0.out.size))
    have HCW := Lib.hid (show W1.drew.cell? ⟨ba, 0, none⟩ = some (.slice oa gs.length ocap) ∧ W1.drew.cell? ⟨bs, 0, none⟩ = some (.slice sa ts.length cap) ∧ W1.drew.cell? ⟨bc, 0, none⟩ = some (.int .i64 (N : Int)) from ⟨(HB0w.out.cell (p := ⟨ba, 0, none⟩) HLT.out.1).trans HC.out.1, (HB0w.out.cell (p := ⟨bs, 0, none⟩) HLT.out.2.1).trans HC.out.2.1, (HB0w.out.cell (p := ⟨bc, 0, none⟩) HLT.out.2.2).trans HC.out.2.2⟩)
    have HOW := Lib.hid (show OwnI W1.drew base (.slice oa gs.length ocap) gs.length (nz gs) from (HO.out.below HB01.out).drew)
    have HR1 := Lib.hid (HR.out.below HB01.out)
    have HBS := Lib.hid (show base ≤ W1.drew.heap.size from Nat.le_trans hbase HB0w.out.size)
    have HLV := Lib.hid (show ba < W1.heap.size ∧ bs < W1.heap.size ∧ bc < W1.heap.size from ⟨Nat.lt_of_lt_of_le HLT.out.1 HB0w.out.size, Nat.lt_of_lt_of_le HLT.out.2.1 HB0w.out.size, Nat.lt_of_lt_of_le HLT.out.2.2 HB0w.out.size⟩)
    have hgl : (gs ++ [c]).length = gs.length + 1 := by simp
    have HI2 := Lib.hid (fun (ba bs bc : Nat) (oa : Option Addr) (ocap : Nat) (w : World) (h1 : w.cell? ⟨ba, 0, none⟩ = some (.slice oa (gs.length + 1) ocap)) (h2 : w.cell? ⟨bs, 0, none⟩ = some (.slice sa ts.length cap)) (h3 : w.cell? ⟨bc, 0, none⟩ = some (.int .i64 (N : Int))) (h4 : Row w sa ts) (h5 : OwnI w base (.slice oa (gs.length + 1) ocap) (gs.length + 1) (nz (gs ++ [c]))) (h6 : base ≤ w.heap.size) =>
      HIH.out (gs ++ [c]) ba bs bc oa ocap w (by have := HL.out; omega) (by rw [hgl]; exact h1) h2 h3 h4 (by rw [hgl]; exact h5) h6)
    clear hr1 hno hB1 hlen hgl
    gi_wp2
    refine region_round (S := fun w' => w'.cell? ⟨ba, 0, none⟩ = some (.slice oa gs.length ocap) ∧ w'.cell? ⟨bs, 0, none⟩ = some (.slice sa ts.length cap) ∧ w'.cell? ⟨bc, 0, none⟩ = some (.int .i64 (N : Int))) (by kernel_rfl) (by kernel_rfl) ?_ (fun hHeld => ?_)
    · (try dsimp only)
      exact HCW.out
    refine wpAnyH_take (i := 0) (v := ?_) (toArr_get _ 0 _ rfl) (by kernel_rfl) (by kernel_rfl) (by kernel_rfl) (fun _ _ _ h => h) (Or.inl ⟨by rfl, ?_⟩) (by assumption) ?_
    rotate_left
    · (intro w hSw; (try dsimp only at hSw); go_simp; (try with_reducible rfl))
    (try simp only [Act.put, List.setIfInBounds_toArray, List.set_cons_zero, List.set_cons_succ])
    refine wpAnyH_take (i := 1) (v := ?_) (toArr_get _ 1 _ rfl) (by kernel_rfl) (by kernel_rfl) (by kernel_rfl) (fun _ _ _ h => h) (Or.inl ⟨by rfl, ?_⟩) (by assumption) ?_
    rotate_left
    · (intro w hSw; (try dsimp only at hSw); go_simp; (try with_reducible rfl))
    (try simp only [Act.put, List.setIfInBounds_toArray, List.set_cons_zero, List.set_cons_succ])
    refine wpAnyH_take (i := 3) (v := ?_) (toArr_get _ 3 _ rfl) (by kernel_rfl) (by kernel_rfl) (by kernel_rfl) (fun _ _ _ h => h) (Or.inl ⟨by rfl, ?_⟩) (by assumption) ?_
    rotate_left
    · (intro w hSw; (try dsimp only at hSw); go_simp; (try with_reducible rfl))
    (try simp only [Act.put, List.setIfInBounds_toArray, List.set_cons_zero, List.set_cons_succ])
    refine wpAnyH_take (i := 4) (v := ?_) (toArr_get _ 4 _ rfl) (by kernel_rfl) (by kernel_rfl) (by kernel_rfl) (fun _ _ _ h => h) (Or.inl ⟨by rfl, ?_⟩) (by assumption) ?_
    rotate_left
    · (intro w hSw; (try dsimp only at hSw); go_simp; (try with_reducible rfl))
    (try simp only [Act.put, List.setIfInBounds_toArray, List.set_cons_zero, List.set_cons_succ])
    refine wpAnyH_ready (rs := [2]) (by kernel_rfl) (by simp) ?_
    refine AllReadyH.cons (toArr_get _ 2 _ rfl) (fun K hK => ?_) ?_
    · go_simp
      refine (with_any gs.length ocap base oa (nz gs) (c : Int) _ HOW.out (by omega)).mono ?_
      rintro e w2 ⟨v2, rfl, ho2, b2⟩
      have HD2 := Lib.hid (show Below W1.heap.size W1 w2 from (Below.refl _ W1).drew.trans b2)
      have HO2 := Lib.hid (show OwnI w2 base v2 (gs.length + 1) (nz (gs ++ [c])) from (ho2.mono HBS.out).congr (fun k hk => nz_with gs c k hk))
      clear ho2 b2
      obtain ⟨a2, c2, rfl, -, -, -⟩ := HO2.out.intF
      go_wp2_with fail
      refine hK.out _ _ ?_ (fun hHeld2 => ?_)
      · (try dsimp only)
        exact ⟨(HD2.out.cell (p := ⟨ba, 0, none⟩) HLV.out.1).trans HCW.out.1, (HD2.out.cell (p := ⟨bs, 0, none⟩) HLV.out.2.1).trans HCW.out.2.1, (HD2.out.cell (p := ⟨bc, 0, none⟩) HLV.out.2.2).trans HCW.out.2.2⟩
      clear hK K hHeld
      have hHeld := hHeld2
      clear hHeld2
      (try simp only [Act.put, List.setIfInBounds_toArray, List.set_cons_zero, List.set_cons_succ])
      refine wpAnyH_ready (rs := [5]) (by kernel_rfl) (by simp) ?_
      refine AllReadyH.cons (toArr_get _ 5 _ rfl) (fun K hK => ?_) ?_
      · go_simp
        refine (completions_any a2 sa (gs.length + 1) c2 ts.length cap (N : Int) w2).mono ?_
        rintro e w3 ⟨rfl, hw3⟩
        have HX3 := Lib.hid (by have := box3_at w2 (.slice a2 (gs.length + 1) c2) (.slice sa ts.length cap) (N : Int); rw [← hw3] at this; exact this)
        have HD3 := Lib.hid (show Below W1.heap.size W1 w3 from HD2.out.trans (HX3.out.2.2.2.1.mono HD2.out.size))
        clear hw3
        go_wp2_with fail
        refine hK.out _ _ ?_ (fun hHeld2 => ?_)
        · (try dsimp only)
          exact ⟨(HD3.out.cell (p := ⟨ba, 0, none⟩) HLV.out.1).trans HCW.out.1, (HD3.out.cell (p := ⟨bs, 0, none⟩) HLV.out.2.1).trans HCW.out.2.1, (HD3.out.cell (p := ⟨bc, 0, none⟩) HLV.out.2.2).trans HCW.out.2.2⟩
        clear hK K hHeld
        have hHeld := hHeld2
        clear hHeld2
        (try simp only [Act.put, List.setIfInBounds_toArray, List.set_cons_zero, List.set_cons_succ])
        refine wpAnyH_done (by kernel_rfl) ?_ _
        refine onlyNormal_mk ?_
        gi_wp2
        have hl3 : w3.heap[l1]? = some (.loop r1) := (HD3.out.block l1 (Array.getElem?_eq_some_iff.1 HL1.out).1).trans HL1.out
        refine range1_inner hl3 (gf := 102) (lb := #[.pointer (some ⟨w2.heap.size, 0, none⟩), .pointer (some ⟨w2.heap.size + 1, 0, none⟩), .pointer (some ⟨w2.heap.size + 2, 0, none⟩)]) rfl (enters_of Tryz.func102 (by kernel_rfl) rfl)
          (HI2.out w2.heap.size (w2.heap.size + 1) (w2.heap.size + 2) a2 c2 w3 HX3.out.1.cell HX3.out.2.1.cell HX3.out.2.2.1.cell (HR1.out.below HD3.out) (HO2.out.below HX3.out.2.2.2.1) (Nat.le_trans HBS.out HD3.out.size)) (Below.refl _ _) (fun _ => rfl)
          (fun x W' => X x W' ∧ KeepsFrom Wf.heap.size W1 W') (OwnFrom.and (ownFrom_up HXX.out (Nat.le_trans HWZ.out.size (Nat.le_trans HB01.out.size HD3.out.size))) (ownFrom_keepsFrom HD3.out.size)) (fun x => knH_own base x _)
          (fun x => { tmps := #[.func (.yield l) #[] #[], .pointer (some ⟨ba, 0, none⟩), .pointer (some ⟨bs, 0, none⟩), .pointer (some ⟨bc, 0, none⟩), .pointer (some ⟨W.heap.size, 0, none⟩), .int .i64 (c : Int), .slice x.1.1 x.1.2.1 x.1.2.2, .slice oa gs.length ocap, .int .i64 (gs.length : Int), .slice sa ts.length cap, .int .i64 (ts.length : Int), .bool false, undef, undef, undef, .slice oa gs.length ocap, .slice sa ts.length cap, .int .i64 (N : Int), .func (.func 122) #[] #[.pointer (some ⟨W0.heap.size + 2, 0, none⟩), .pointer (some ⟨W0.heap.size, 0, none⟩), .pointer (some ⟨W0.heap.size + 1, 0, none⟩)], .int .i64 (c : Int), .slice oa gs.length ocap, .int .i64 (c : Int), .slice a2 (gs.length + 1) c2, .slice sa ts.length cap, .int .i64 (N : Int), .func (.func 102) #[] #[.pointer (some ⟨w2.heap.size, 0, none⟩), .pointer (some ⟨w2.heap.size + 1, 0, none⟩), .pointer (some ⟨w2.heap.size + 2, 0, none⟩)], .slice x.1.1 x.1.2.1 x.1.2.2, undef, undef, undef, undef], defers := [] }) ?assign2 ?body2 ?none2 ?some2
        case assign2 =>
          intro l2 x W' K hK
          dsimp only [encH]
          gi_wp2
          exact hK
        case body2 =>
          intro l2 x W4 hl2 _ hB4 hkn
          have HB4 := Lib.hid (show Below W0.heap.size W0 W4 from HB01.out.trans ((HD3.out.trans (hB4.mono HD3.out.size)).mono HB01.out.size))
          have HK4 := Lib.hid (below_keeps Wf.heap.size (show Below W1.heap.size W1 W4 from HD3.out.trans (hB4.mono HD3.out.size)))
          have c4 := (show Boxed W4 W.heap.size _ _ from (HB4.out.block W.heap.size HYB.out.2).trans HYB.out.1).cell
          obtain ⟨fn, tmps, assign, body, hy, hR⟩ := HY.out x W4 (HWZ.out.trans (HB4.out.mono HWZ.out.size)) hkn
          dsimp only [encH] at hy
          have HRR := Lib.hid hR
          clear hR hkn hB4
          gi_wp2_with fail
          refine ⟨rfl, (roundRound HRR.out).mono ?_⟩
          rintro e W5 ⟨rfl, hk5, hx5⟩
          have HK5 := Lib.hid hk5
          have HX5 := Lib.hid hx5
          clear hk5 hx5
          gi_wp2
          exact ⟨keepsFrom_up HK5.out (Nat.le_trans HWZ.out.size (Nat.le_trans HB01.out.size HD3.out.size)), HX5.out, HK4.out.trans (keepsFrom_up HK5.out (Nat.le_trans HWZ.out.size HXF.out.2.2.2.1.size))⟩
        case none2 =>
          intro W5 hno5 hB5
          have HN5 := Lib.hid hno5
          have HD5 := Lib.hid (show Below W1.heap.size W1 W5 from HD3.out.trans (hB5.mono HD3.out.size))
          clear hno5 hB5
          gi_wp2
          exact ⟨below_keeps _ HD5.out, HD5.out.mono HBW.out.size, fun d hd => (List.mem_append.1 hd).elim (HNO.out d) (fun e => by obtain rfl : d = c := (by simpa using e); exact HN5.out), HBW.out.trans (HD5.out.mono HBW.out.size)⟩
        case some2 =>
          rintro x W5 hf ⟨hx, hk⟩
          have HF := Lib.hid hf
          have HX5 := Lib.hid hx
          have HK5 := Lib.hid hk
          clear hf hx hk
          gi_wp2
          exact ⟨HK5.out, rfl, x, ⟨pre, c, rfl, HNO.out, HF.out⟩, HX5.out⟩
      exact AllReadyH.nil
    exact AllReadyH.nil
  case done =>
    rintro D ys W1 hD rfl ⟨hno, hB1⟩ hK
    have HN := Lib.hid (fst_none hno)
    have HB1 := Lib.hid (show Below W.heap.size W W1 from HWZ.out.trans ((HXF.out.2.2.2.1.trans (hB1.mono HXF.out.2.2.2.1.size)).mono HWZ.out.size))
    have HLD := Lib.hid (show W.heap.size ≤ D from Nat.le_trans HWZ.out.size (Nat.le_trans HXF.out.2.2.2.1.size hD))
    clear hno hB1
    gi_wp2
    refine ⟨by simp, .inl ⟨_, _, rfl, run_takeDeferred hK, ?_⟩⟩
    exact ⟨_, results_none rfl _ _ _, ⟨_, rfl⟩, .inl ⟨HN.out, below_put HB1.out (Nat.le_refl _) HLD.out⟩⟩
  case stop =>
    rintro D c pre W1 hD hpre ⟨rfl, x, ⟨p0, c0, e, h0, h1⟩, hx⟩ hK
    have HF := Lib.hid (fst_here hpre e h0 h1)
    have HX1 := Lib.hid hx
    have HLD := Lib.hid (show W.heap.size ≤ D from Nat.le_trans HWZ.out.size (Nat.le_trans HXF.out.2.2.2.1.size hD))
    clear hpre e h0 h1 hx
    gi_wp2
    refine ⟨by simp, .inl ⟨_, _, rfl, run_takeDeferred hK, ?_⟩⟩
    exact ⟨_, results_none rfl _ _ _, ⟨_, rfl⟩, .inr ⟨x, HF.out, HXX.out.putObj _ HX1.out HLD.out hK rfl⟩⟩

theorem comp_all (ts : List T3) (N base cap : Nat) (sa : Option Addr) (hv : svB ts = true) (hN : N ≤ 5) : ∀ (m : Nat) (gs : List Nat) (ba bs bc : Nat) (oa : Option Addr) (ocap : Nat) (w : World), gs.length + m = ts.length → w.cell? ⟨ba, 0, none⟩ = some (.slice oa gs.length ocap) → w.cell? ⟨bs, 0, none⟩ = some (.slice sa ts.length cap) → w.cell? ⟨bc, 0, none⟩ = some (.int .i64 (N : Int)) → Row w sa ts → OwnI w base (.slice oa gs.length ocap) gs.length (nz gs) → base ≤ w.heap.size → GivesC ts N base m gs ba bs bc w
  | 0, gs, ba, bs, bc, oa, ocap, w, hl, ha, hs, _, _, ho, _ => comp_zero ts N base gs ba bs bc oa sa ocap cap w hl ha hs ho
  | m + 1, gs, ba, bs, bc, oa, ocap, w, hl, ha, hs, hc, hr, ho, hb => comp_succ ts N base m cap sa hv hN (fun gs ba bs bc oa ocap w h1 h2 h3 h4 h5 h6 h7 => comp_all ts N base cap sa hv hN m gs ba bs bc oa ocap w h1 h2 h3 h4 h5 h6 h7) gs ba bs bc oa ocap w hl ha hs hc hr ho hb

set_option maxRecDepth 100000 in
set_option maxHeartbeats 4000000 in
/-- impl.firstOf over assignment.completions. -/
theorem firstA_any (ts : List T3) (N base m : Nat) (gs : List Nat) (ba bs bc : Nat) (w : World) (hg : GivesC ts N base m gs ba bs bc w) (hbase : base ≤ w.heap.size) :
    Calls Tryz.prog 73 #[.func (.func 102) #[] #[.pointer (some ⟨ba, 0, none⟩), .pointer (some ⟨bs, 0, none⟩), .pointer (some ⟨bc, 0, none⟩)]] w fun e w' =>
      GotAsg base (fstC ts N m gs) e w' ∧ Below w.heap.size w w' := by
  have HG := Lib.hid hg
  have HBS := Lib.hid hbase
  clear hg hbase
  refine (callsIn_wide (n := 3)).1 ?_
  refine callsIn_of_wp_marks Tryz.func73 rfl trivial ?_ rfl
  simp only [Tryz.ntmps73, List.size_toArray, List.length_cons, List.length_nil, Nat.reduceAdd, Nat.reduceSub, Array.replicate_succ, Array.replicate_zero, List.push_toArray, List.append_toArray, List.nil_append, List.cons_append]
  gi_wp2
  have bR := (Boxed.new w 92 (.slice none 0 0)).alloc (.cells #[.bool false] 4)
  have bB := Boxed.new (w.alloc (.cells #[.slice none 0 0] 92)) 4 (.bool false)
  simp only [World.size_alloc] at bB
  have hB0 : Below w.heap.size w ((w.alloc (.cells #[.slice none 0 0] 92)).alloc (.cells #[.bool false] 4)) := ((Below.refl _ w).alloc (Nat.le_refl _) _).alloc (by simp) _
  have hsz : ((w.alloc (.cells #[.slice none 0 0] 92)).alloc (.cells #[.bool false] 4)).heap.size = w.heap.size + 2 := by simp
  obtain ⟨W0, hW0⟩ : ∃ W0, (w.alloc (.cells #[.slice none 0 0] 92)).alloc (.cells #[.bool false] 4) = W0 := ⟨_, rfl⟩
  rw [hW0] at bR bB hB0 hsz ⊢
  clear hW0
  have hle : w.heap.size ≤ W0.heap.size := by omega
  have HR0 := Lib.hid bR
  have HB0 := Lib.hid bB
  have HW0 := Lib.hid hB0
  clear bR bB
  refine range1_outer (gf := 102) (lb := #[.pointer (some ⟨ba, 0, none⟩), .pointer (some ⟨bs, 0, none⟩), .pointer (some ⟨bc, 0, none⟩)]) rfl (enters_of Tryz.func102 (by kernel_rfl) rfl)
    HG.out hB0 (fun _ => rfl)
    (fun x W => ((Boxed W w.heap.size 92 (.slice x.1.1 x.1.2.1 x.1.2.2) ∧ Boxed W (w.heap.size + 1) 4 (.bool true)) ∧ KnH base x W) ∧ Below w.heap.size w W)
    (OwnFrom.and (OwnFrom.and (OwnFrom.and (Own.from (boxed_own _ _ (fun x : Hdr => Value.slice x.1.1 x.1.2.1 x.1.2.2)) _) (Own.from (boxed_own _ _ _) _)) (fun x A C row hs hg hr => knH_own base x _ () A C row hs hg hr)) (ownFrom_below (Nat.le_refl _) hle)) (fun x => knH_own base x _)
    (fun x => { tmps := #[.func (.func 102) #[] #[.pointer (some ⟨ba, 0, none⟩), .pointer (some ⟨bs, 0, none⟩), .pointer (some ⟨bc, 0, none⟩)], undef, .pointer (some ⟨w.heap.size, 0, none⟩), .pointer (some ⟨w.heap.size + 1, 0, none⟩), .slice x.1.1 x.1.2.1 x.1.2.2, undef,
      .func (.func 102) #[] #[.pointer (some ⟨ba, 0, none⟩), .pointer (some ⟨bs, 0, none⟩), .pointer (some ⟨bc, 0, none⟩)], .slice x.1.1 x.1.2.1 x.1.2.2, undef, undef], defers := [] }) ?assign ?body ?none ?some
  case assign =>
    intro l x W K hK
    dsimp only [encH]
    gi_wp2
    exact hK
  case body =>
    intro l x W hl _ hB hkn
    have bR2 : Boxed W w.heap.size 92 (.slice none 0 0) := (hB.block _ HR0.out.lt).trans HR0.out
    have bB2 : Boxed W (w.heap.size + 1) 4 (.bool false) := (hB.block _ HB0.out.lt).trans HB0.out
    have cR := bR2.cell
    have fR := bR2.frozen
    have bB3 := bB2.other (by omega : w.heap.size + 1 ≠ w.heap.size) (.slice x.1.1 x.1.2.1 x.1.2.2)
    have cB := bB3.cell
    have fB := bB3.frozen
    have HKN := Lib.hid hkn
    have HB2 := Lib.hid (HW0.out.trans (hB.mono hle))
    have HAP := Lib.hid (show ∀ k, (Value.slice x.1.1 x.1.2.1 x.1.2.2).ownBlock = some k → k ≠ w.heap.size ∧ k ≠ w.heap.size + 1 from fun k e => ⟨fun e2 => bR2.not_row (by decide) hkn (by rw [e, e2]), fun e2 => bB2.not_row (by decide) hkn (by rw [e, e2])⟩)
    clear hkn hB
    gi_wp2
    exact ⟨((KeepsOthers.setCell _ _ _).trans (KeepsOthers.setCell _ _ _)).from _, ⟨⟨((bR2.set (.slice x.1.1 x.1.2.1 x.1.2.2)).other (by omega) _), bB3.set _⟩, (HKN.out.other (fun e => (HAP.out _ e).1 rfl)).other (fun e => (HAP.out _ e).2 rfl)⟩, (HB2.out.setCell (p := ⟨w.heap.size, 0, none⟩) (Nat.le_refl _) _).setCell (p := ⟨w.heap.size + 1, 0, none⟩) (by simp) _⟩
  case none =>
    intro D W hD hno hB hK
    have HN := Lib.hid hno
    have bR2 : Boxed W w.heap.size 92 (.slice none 0 0) := (hB.block _ HR0.out.lt).trans HR0.out
    have bB2 : Boxed W (w.heap.size + 1) 4 (.bool false) := (hB.block _ HB0.out.lt).trans HB0.out
    have cR := bR2.cell
    have fR := bR2.frozen
    have bB3 := bB2.other (by omega : w.heap.size + 1 ≠ w.heap.size) (.slice none 0 0)
    have cB := bB3.cell
    have fB := bB3.frozen
    have HB2 := Lib.hid (HW0.out.trans (hB.mono hle))
    clear hno hB
    gi_wp2
    have hK' := ((KeepsOthers.setCell W ⟨w.heap.size, 0, none⟩ (.slice none 0 0)).trans (KeepsOthers.setCell _ ⟨w.heap.size + 1, 0, none⟩ (.bool false))).same D _ hK rfl
    refine ⟨by simp, .inl ⟨_, _, rfl, run_takeDeferred hK', ?_⟩⟩
    have hput := grownBy_putObj' ((W.setCell ⟨w.heap.size, 0, none⟩ (.slice none 0 0)).setCell ⟨w.heap.size + 1, 0, none⟩ (.bool false)) D (.deferred none)
    have h5 := cell_kept (((bR2.set (.slice none 0 0)).other (by omega : w.heap.size ≠ w.heap.size + 1) (.bool false)).cell) hput (fun r e => by cases e; exact ⟨_, hK', rfl⟩)
    have h6 := cell_kept (bB3.set (.bool false)).cell hput (fun r e => by cases e; exact ⟨_, hK', rfl⟩)
    refine ⟨.tuple #[.slice none 0 0, .bool false], ?_, ⟨.slice none 0 0, by rw [HN.out]; rfl, by rw [HN.out]; exact OwnI.nil _ _ _⟩, ((HB2.out.setCell (p := ⟨w.heap.size, 0, none⟩) (Nat.le_refl _) _).setCell (p := ⟨w.heap.size + 1, 0, none⟩) (by simp) _).trans (belowK_b (w := w) (Nat.le_refl _) _ D _ _ (by omega) hK' rfl rfl)⟩
    simp [results, Tryz.f73, go_sem, h5, h6]
  case some =>
    rintro D x W hD hf ⟨⟨⟨bR2, bB2⟩, hkn⟩, hB2⟩ hK
    have HF := Lib.hid hf
    have HKN := Lib.hid hkn
    clear hf hkn
    gi_wp2
    refine ⟨by simp, .inl ⟨_, _, rfl, run_takeDeferred hK, ?_⟩⟩
    have hput := grownBy_putObj' W D (.deferred none)
    have h5 := cell_kept bR2.cell hput (fun r e => by cases e; exact ⟨_, hK, rfl⟩)
    have h6 := cell_kept bB2.cell hput (fun r e => by cases e; exact ⟨_, hK, rfl⟩)
    refine ⟨.tuple #[.slice x.1.1 x.1.2.1 x.1.2.2, .bool true], ?_, ⟨.slice x.1.1 x.1.2.1 x.1.2.2, by rw [HF.out]; rfl, by rw [HF.out]; exact owni_kept HKN.out hput (fun r e => by cases e; exact ⟨_, hK, rfl⟩)⟩, hB2.trans (belowK_b (w := w) (Nat.le_refl _) W D _ _ (by omega) hK rfl rfl)⟩
    simp [results, Tryz.f73, go_sem, h5, h6]

end Go.Proofs.YtdgihkmiolnglaaGreatDoor
