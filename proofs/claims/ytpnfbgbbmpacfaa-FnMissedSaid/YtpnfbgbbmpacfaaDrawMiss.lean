/- Contract of spec.DrawMissed: jobs and a schedule are drawn. What is drawn is not told, only its bounds. Condition: the argument is a slice of bytes. -/
import Derived.Test.YtpnfbgbbmpacfaaDrawJobs
import Derived.Test.YtpnfbgbbmpacfaaDrawSet
import Derived.Test.YtpnfbgbbmpacfaaRunSpec
import Derived.Test.YtpnfbgbbmpacfaaHeapMem
import Derived.StillTailTactics
namespace Go.Proofs.Ytpnfbgbbmpacfaa
open Go.RowKit Go.Deep

/-- Jobs were drawn, and a schedule. -/
def GotMiss (w : World) (e : Ending) (w' : World) : Prop :=
  ∃ (ja ra fa : Option Addr) (jcap rn rc fn fc : Nat) (js : List J4) (f : Nat → Int), e = .returned (.tuple #[.slice ja js.length jcap, .agg #[.slice ra rn rc, .slice fa fn fc]]) ∧ js.length ≤ 61 ∧ fn ≤ 62 ∧ RowJ w' ja js ∧ IntF w' fa fn f ∧ Below w.heap.size w w'
/-- What has been drawn so far: the result in w's next block, the reader in rb, the schedule in S. -/
structure DM (w W : World) (rb S q : Nat) (js : List J4) (jv vr vf : Value) (n : Nat) (f : Nat → Int) : Prop where
  rd : Rd W rb q
  oj : OwnJ W (rb + 1) jv js
  of : OwnI W (rb + 1) vf n f
  c0 : W.cell? ⟨S, 0, none⟩ = some vr
  c1 : W.cell? ⟨S, 1, none⟩ = some vf
  z1 : W.frozen? ⟨S, 1, none⟩ = false
  r0 : W.cell? ⟨w.heap.size, 0, none⟩ = some (.slice none 0 0)
  r1 : W.cell? ⟨w.heap.size, 1, none⟩ = some (.slice none 0 0)
  k0 : W.frozen? ⟨w.heap.size, 0, none⟩ = false
  k1 : W.frozen? ⟨w.heap.size, 1, none⟩ = false
  bl : Below w.heap.size w W
  lr : w.heap.size < rb
  lS : rb < S
  fS : vf.ownBlock ≠ some S
  jS : ∀ k, jv.ownBlock = some k → k ≠ S ∧ vf.ownBlock ≠ some k
variable {w W W' : World} {rb S q q' n : Nat} {js : List J4} {jv vr vf : Value} {f : Nat → Int}
theorem DM.sS (h : DM w W rb S q js jv vr vf n f) : S < W.heap.size := World.block_lt_of_cell? W ⟨S, 0, none⟩ h.c0
theorem DM.of_blocks (h : DM w W rb S q js jv vr vf n f) (hb : Below w.heap.size w W') (hrd : Rd W' rb q') (hk : ∀ k, (k = w.heap.size ∨ rb < k) → k < W.heap.size → W'.heap[k]? = W.heap[k]?) : DM w W' rb S q' js jv vr vf n f := by
  have hS := h.sS
  have lr := h.lr
  have lS := h.lS
  have hw : w.heap.size < W.heap.size := by omega
  have e1 := hk S (.inr lS) hS
  have e2 := hk w.heap.size (.inl rfl) hw
  have oj' : OwnJ W' (rb + 1) jv js := by
    obtain ⟨h1, h2 | ⟨g, cap, cur, rfl, h3, h4, h5⟩⟩ := h.oj
    · exact ⟨h1, .inl h2⟩
    · exact ⟨h1, .inr ⟨g, cap, cur, rfl, h3, (hk g (.inr (by omega)) (Array.getElem?_eq_some_iff.1 h4).1).trans h4, h5⟩⟩
  exact ⟨hrd, oj', h.of.of_block fun k e => hk k (.inr (by have := (h.of.lt k e).1; omega)) (h.of.lt k e).2, (World.cell?_of_block (a := ⟨S, 0, none⟩) e1).trans h.c0, (World.cell?_of_block (a := ⟨S, 1, none⟩) e1).trans h.c1, (World.frozen?_of_block (a := ⟨S, 1, none⟩) e1).trans h.z1,
    (World.cell?_of_block (a := ⟨w.heap.size, 0, none⟩) e2).trans h.r0, (World.cell?_of_block (a := ⟨w.heap.size, 1, none⟩) e2).trans h.r1, (World.frozen?_of_block (a := ⟨w.heap.size, 0, none⟩) e2).trans h.k0, (World.frozen?_of_block (a := ⟨w.heap.size, 1, none⟩) e2).trans h.k1, hb, lr, lS, h.fS, h.jS⟩
theorem DM.pick (h : DM w W rb S q js jv vr vf n f) (hg : W.grownBy W' (some rb)) (hr : Rd W' rb q') : DM w W' rb S q' js jv vr vf n f :=
  h.of_blocks (h.bl.grown hg h.bl.size fun k hk => by cases hk; have := h.lr; omega) hr fun k hk hl => hg.block k hl (fun e => by cases e; have := h.lr; omega)
theorem DM.drew (h : DM w W rb S q js jv vr vf n f) : DM w W.drew rb S q js jv vr vf n f := h.of_blocks h.bl.drew h.rd.drew fun _ _ _ => rfl
theorem DM.got {ja ra fa : Option Addr} {jcap rn rc fn fc : Nat} (h : DM w W rb S q js (.slice ja js.length jcap) (.slice ra rn rc) (.slice fa fn fc) fn f) (hj : js.length ≤ 61) (hn : fn ≤ 62) {x y : Value} :
    GotMiss w (.returned (.tuple #[.slice ja js.length jcap, .agg #[.slice ra rn rc, .slice fa fn fc]])) ((W.drew.setCell ⟨w.heap.size, 0, none⟩ x).setCell ⟨w.heap.size, 1, none⟩ y) := by
  have h2 := h.drew
  have lr := h.lr
  refine ⟨ja, ra, fa, jcap, rn, rc, fn, fc, js, f, rfl, hj, hn, ?_, ?_, (h2.bl.setCell (Nat.le_refl _) _).setCell (Nat.le_refl _) _⟩
  · exact ((h2.oj.other (fun e => by have := (h2.oj.lt _ e).1; simp at this; omega)).other (fun e => by have := (h2.oj.lt _ e).1; simp at this; omega)).rowJ
  · exact ((h2.of.other (fun e => by have := (h2.of.lt _ e).1; simp at this; omega)).other (fun e => by have := (h2.of.lt _ e).1; simp at this; omega)).intF'
theorem DM.start {w W w4 : World} {rb q n : Nat} {js : List J4} {jv vr vf : Value} {f : Nat → Int} (rd : Rd w4 rb q) (oj : OwnJ w4 (rb + 1) jv js) (of : OwnI w4 W.heap.size vf n f) (hj : ∀ k, jv.ownBlock = some k → k < W.heap.size) (hz : rb < W.heap.size)
    (r0 : w4.cell? ⟨w.heap.size, 0, none⟩ = some (.slice none 0 0)) (r1 : w4.cell? ⟨w.heap.size, 1, none⟩ = some (.slice none 0 0)) (k0 : w4.frozen? ⟨w.heap.size, 0, none⟩ = false) (k1 : w4.frozen? ⟨w.heap.size, 1, none⟩ = false) (bl : Below w.heap.size w w4) (lr : w.heap.size < rb) (hs : W.heap.size ≤ w4.heap.size) :
    DM w (w4.alloc (.cells #[vr, vf] 43)) rb w4.heap.size q js jv vr vf n f := by
  have hb := below_box w4 (.cells #[vr, vf] 43)
  have hw : w.heap.size < w4.heap.size := by have := rd.lt; omega
  exact ⟨rd.alloc _, oj.below hb, (of.below hb).mono (by omega), by simp [go_sem], by simp [go_sem], by simp [go_sem], (hb.cell (p := ⟨w.heap.size, 0, none⟩) hw).trans r0, (hb.cell (p := ⟨w.heap.size, 1, none⟩) hw).trans r1, (hb.frozen (p := ⟨w.heap.size, 0, none⟩) hw).trans k0, (hb.frozen (p := ⟨w.heap.size, 1, none⟩) hw).trans k1,
    bl.alloc bl.size _, lr, by omega, fun e => by have := (of.lt _ e).2; omega, fun k hk => ⟨by have := hj k hk; omega, fun e => by have := hj k hk; have := (of.lt k e).1; omega⟩⟩
theorem DM.set {gf cap i : Nat} (h : DM w W rb S q js jv vr (.slice (some ⟨gf, 0, none⟩) n cap) n f) (hi : i < n) (x : Int) : DM w (W.setCell ⟨gf, i, none⟩ (.int .i64 x)) rb S q js jv vr (.slice (some ⟨gf, 0, none⟩) n cap) n (fun k => if k = i then x else f k) := by
  have hg := h.of.lt gf rfl
  have lr := h.lr
  have lS := h.lS
  have hne : gf ≠ S := fun e => h.fS (by rw [e]; rfl)
  have e : ∀ k, k ≠ gf → (W.setCell ⟨gf, i, none⟩ (.int .i64 x)).heap[k]? = W.heap[k]? := fun k hk => Below.heap_setCell W ⟨gf, i, none⟩ _ k hk
  have e1 := e S (fun e => hne e.symm)
  have e2 := e w.heap.size (by omega)
  exact ⟨h.rd.set (show rb < gf by omega) _, h.oj.other (fun e => (h.jS _ e).2 rfl), h.of.set hi x, (World.cell?_of_block (a := ⟨S, 0, none⟩) e1).trans h.c0, (World.cell?_of_block (a := ⟨S, 1, none⟩) e1).trans h.c1, (World.frozen?_of_block (a := ⟨S, 1, none⟩) e1).trans h.z1,
    (World.cell?_of_block (a := ⟨w.heap.size, 0, none⟩) e2).trans h.r0, (World.cell?_of_block (a := ⟨w.heap.size, 1, none⟩) e2).trans h.r1, (World.frozen?_of_block (a := ⟨w.heap.size, 0, none⟩) e2).trans h.k0, (World.frozen?_of_block (a := ⟨w.heap.size, 1, none⟩) e2).trans h.k1, h.bl.setCell (show w.heap.size ≤ gf by omega) _, lr, lS, h.fS, h.jS⟩
theorem DM.push {v' : Value} {x : Int} (h : DM w W rb S q js jv vr vf n f) (ho : W'.ownsRow (rb + 1) 3 1 v' (n + 1) (vals f n ++ [.int .i64 x])) (hg : W.grownBy W' vf.ownBlock) (hp : v'.ownBlock = vf.ownBlock ∨ v'.ownBlock = some W.heap.size) :
    DM w (W'.setCell ⟨S, 1, none⟩ v') rb S q js jv vr v' (n + 1) (fun k => if k = n then x else f k) := by
  have hS := h.sS
  have lr := h.lr
  have lS := h.lS
  have nb : ∀ k, k < W.heap.size → vf.ownBlock ≠ some k → W'.heap[k]? = W.heap[k]? := fun k hk h2 => hg.block k hk (fun e => h2 e.symm)
  have e1 := nb S hS h.fS
  have ew : ∀ k, k ≤ rb → W'.heap[k]? = W.heap[k]? := fun k hk => nb k (by omega) (fun e => by have := (h.of.lt k e).1; omega)
  have c0 := (World.cell?_of_block (a := ⟨S, 0, none⟩) e1).trans h.c0
  have c1 := (World.cell?_of_block (a := ⟨S, 1, none⟩) e1).trans h.c1
  have z1 := (World.frozen?_of_block (a := ⟨S, 1, none⟩) e1).trans h.z1
  have e2 := ew w.heap.size (by omega)
  have hne : S ≠ w.heap.size := by omega
  have e3 : (W'.setCell ⟨S, 1, none⟩ v').heap[w.heap.size]? = W.heap[w.heap.size]? := (Below.heap_setCell W' ⟨S, 1, none⟩ v' _ (fun e => hne e.symm)).trans e2
  have own : OwnI W' (rb + 1) v' (n + 1) (fun k => if k = n then x else f k) := by
    unfold OwnI
    rw [vals_succ]
    have e1 : vals (fun k => if k = n then x else f k) n = vals f n := by
      simp only [vals]
      exact List.map_congr_left fun k hk => by rw [if_neg (by have := List.mem_range.1 hk; omega)]
    rw [e1, if_pos rfl]
    exact ho
  have fS' : v'.ownBlock ≠ some S := by
    rcases hp with e | e
    · rw [e]; exact h.fS
    · rw [e]; intro e4; simp only [Option.some.injEq] at e4; omega
  have jS' : ∀ k, jv.ownBlock = some k → k ≠ S ∧ v'.ownBlock ≠ some k := fun k hk => ⟨(h.jS k hk).1, by
    rcases hp with e | e
    · rw [e]; exact (h.jS k hk).2
    · rw [e]; intro e4; have := (h.oj.lt k hk).2; simp only [Option.some.injEq] at e4; omega⟩
  have oj' : OwnJ W' (rb + 1) jv js := by
    obtain ⟨h1, h2 | ⟨g, cap, cur, rfl, h3, h4, h5⟩⟩ := h.oj
    · exact ⟨h1, .inl h2⟩
    · exact ⟨h1, .inr ⟨g, cap, cur, rfl, h3, (nb g (Array.getElem?_eq_some_iff.1 h4).1 (h.jS g rfl).2).trans h4, h5⟩⟩
  exact ⟨(h.rd.kept hg.size ew).set (show rb < S from lS) _, oj'.other (fun e => (h.jS _ e).1 rfl), own.other fS', by simp [go_sem, c0], by simp [go_sem, c1], by simp [go_sem, z1],
    (World.cell?_of_block (a := ⟨w.heap.size, 0, none⟩) e3).trans h.r0, (World.cell?_of_block (a := ⟨w.heap.size, 1, none⟩) e3).trans h.r1, (World.frozen?_of_block (a := ⟨w.heap.size, 0, none⟩) e3).trans h.k0, (World.frozen?_of_block (a := ⟨w.heap.size, 1, none⟩) e3).trans h.k1,
    (h.bl.grown hg h.bl.size (fun k hk => by have := (h.of.lt k hk).1; omega)).setCell (show w.heap.size ≤ S by omega) _, lr, lS, fS', jS'⟩

set_option maxRecDepth 100000 in
set_option maxHeartbeats 4000000 in
/-- spec.DrawMissed. -/
theorem drawMissed_any (a : Option Addr) (len cap : Nat) (w : World) (hb : Byts w a len cap) :
    Calls Try.prog 32 #[.slice a len cap] w (GotMiss w) := by
  obtain ⟨hb, hc, hm⟩ := hb
  obtain ⟨i0, hi, hz, hsz, hby⟩ := info_parts intInfo
  have HI := Lib.hid (And.intro hi (And.intro hz (And.intro hsz hby)))
  clear hi hz hsz hby
  obtain ⟨W0, hW0⟩ : ∃ W, W = w.alloc (.cells #[.slice none 0 0, .slice none 0 0] 43) := ⟨_, rfl⟩
  have b0 : Below w.heap.size w W0 := by rw [hW0]; exact below_box _ _
  have s0 : W0.heap.size = w.heap.size + 1 := by rw [hW0]; simp
  have HB := Lib.hid (show Bts W0 W0.heap.size a len from fun k hk => by
    obtain ⟨b, off, e, h1, z, hz, hc⟩ := hb k hk
    exact ⟨b, off, e, by omega, z, hz, (b0.cell (p := ⟨b, off + k, none⟩) h1).trans hc⟩)
  have q0 : W0.cell? ⟨w.heap.size, 0, none⟩ = some (.slice none 0 0) := by rw [hW0]; simp [go_sem]
  have q1 : W0.cell? ⟨w.heap.size, 1, none⟩ = some (.slice none 0 0) := by rw [hW0]; simp [go_sem]
  have q2 : W0.frozen? ⟨w.heap.size, 0, none⟩ = false := by rw [hW0]; simp [go_sem]
  have q3 : W0.frozen? ⟨w.heap.size, 1, none⟩ = false := by rw [hW0]; simp [go_sem]
  have HW0 := Lib.hid hW0
  have HS0 := Lib.hid s0
  clear hb hW0 s0
  go_enter Try.func32, Try.ntmps32
  go_wp2_with fail
  rw [← HW0.out]
  refine (l20Open_any _ _ _ _ HB.out hc hm).mono ?_
  rintro e w1 ⟨rfl, hr, hb1, hs1⟩
  have HR := Lib.hid hr
  have B1 := Lib.hid hb1
  clear hr hb1 hs1
  go_wp2_with fail
  refine (l20Set_full W0.heap.size 0 0 _ HR.out (by omega)).mono ?_
  rintro e w2 ⟨a2, cap2, ts, rfl, hlen, hlc, hcm, hrow, hg2, hr2, ⟨g, rfl, hgg⟩, hval⟩
  have hv := hval (Int.le_refl 0)
  have HW := Lib.hid hrow
  have HR2 := Lib.hid hr2
  have hgne : g ≠ W0.heap.size := by have := HR.out.lt; omega
  have B2 := Lib.hid (B1.out.trans (gb_to_below hg2 (Nat.le_refl _) B1.out.size))
  clear hrow hr2 hval hg2
  go_wp2_with fail
  refine (l20Jobs_any W0.heap.size 200 g 0 cap2 0 ts _ HR2.out (by omega) HW.out hgne hv).mono ?_
  rintro e w3 ⟨s, js, rfl, hjt, hjl, hleg'⟩
  have hleg := hleg' (Int.le_refl 0)
  have HT := Lib.hid hjt
  obtain ⟨ja, jcap, rfl⟩ := HT.out.ow.shape
  have HW3 := Lib.hid (HT.out.row HW.out hgne)
  have B3 := Lib.hid (B2.out.trans (gb_to_below HT.out.gb (Nat.le_refl _) B2.out.size))
  clear hjt hleg'
  go_wp2_with fail
  refine (specRunEdf_any _ _ _ _ ts js _ HW3.out HT.out.ow.rowJ (by omega) (by omega)).mono ?_
  rintro e w4 ⟨⟨vr, vf, rfl, o1, o2, ap⟩, b4⟩
  rw [lenR, if_pos hleg] at o1
  rw [lenF, if_pos hleg] at o2
  obtain ⟨ra, rc, rfl⟩ := own_shape o1
  obtain ⟨fa, fc, rfl⟩ := own_shape o2
  have hrlt := HR2.out.lt
  have hl0 : w.heap.size < W0.heap.size := by have := HS0.out; omega
  have b04 : Below W0.heap.size W0 w4 := B3.out.trans (b4.mono B3.out.size)
  have D4 := Lib.hid (DM.start (w := w) (W := w3) (vr := .slice ra 120 rc) (HT.out.rd.below b4) ((HT.out.ow.mono (show W0.heap.size + 1 ≤ w2.heap.size from hrlt)).below b4) o2 (fun k hk => (HT.out.ow.lt k hk).2) (HT.out.rd.lt)
    ((b04.cell (p := ⟨w.heap.size, 0, none⟩) hl0).trans q0) ((b04.cell (p := ⟨w.heap.size, 1, none⟩) hl0).trans q1) ((b04.frozen (p := ⟨w.heap.size, 0, none⟩) hl0).trans q2) ((b04.frozen (p := ⟨w.heap.size, 1, none⟩) hl0).trans q3) (b0.trans (b04.mono (by omega))) hl0 b4.size)
  clear o1 o2 ap b4 b04 hrlt hl0 HT HW3 HW B3 B2 B1 HR2 HR HB q0 q1 q2 q3 HS0 hgne hgg b0
  go_wp2_with fail
  generalize hA : w4.alloc (.cells #[.slice ra 120 rc, .slice fa js.length fc] 43) = A at D4 ⊢
  generalize hSS : w4.heap.size = S at D4 ⊢
  generalize hrb : W0.heap.size = rb at D4 ⊢
  clear hA hSS hrb HW0
  refine (pick_any rb _ 4 _ D4.out.rd (by omega)).mono ?_
  rintro e w5 ⟨v, rfl, v0, v1, _, hg, hr⟩
  have v2 := v1 (by decide)
  have D5 := Lib.hid (D4.out.pick hg hr)
  clear hg hr D4 v1
  by_cases h0 : v = 0
  · subst h0
    have c1 := D5.out.c1
    have z1 := D5.out.z1
    go_wp2_with (at_builtin; refine wpList_append_at _ rfl (.tmp 23) (.tmp 24) 41 rfl (rb + 1) 3 i0 _ 1 8 Try.underlying41 HI.out.1 HI.out.2.1 HI.out.2.2.1 HI.out.2.2.2 rfl (by decide) _ js.length (vals (finF js) js.length) rfl (World.ownsRow.alloc D5.out.of _) ⟨w5.heap.size, 0, none⟩ 1 1 [.int .i64 1] rfl rfl (news1 _ _ _) (one1 _) (by unfold maxLen; omega) (by omega) (by have := D5.out.rd.lt; simp; omega) (by decide) ?_; intro v' w6 ho hg hp hnn; obtain ⟨fa', fc', rfl⟩ := own_shape ho; have D50 := (D5.out.of_blocks (D5.out.bl.alloc D5.out.bl.size (.cells #[.int .i64 1] 3)) (D5.out.rd.alloc _) (fun k _ hk => Below.heap_alloc w5 _ k hk)); have d1 := (World.cell?_of_block (a := ⟨S, 1, none⟩) (hg.block S D50.sS (fun e => D50.fS e.symm))).trans D50.c1; have d2 := (World.frozen?_of_block (a := ⟨S, 1, none⟩) (hg.block S D50.sS (fun e => D50.fS e.symm))).trans D50.z1; have D6 := Lib.hid (D50.push ho hg hp); clear ho hg hp hnn D50 c1 z1)
    generalize hA : w6.setCell ⟨S, 1, none⟩ (.slice fa' (js.length + 1) fc') = A6 at D6 ⊢
    clear hA d1 d2
    have c0 := D6.out.c0
    have c1 := D6.out.c1
    have r0 := D6.out.r0
    have r1 := D6.out.r1
    have k0 := D6.out.k0
    have k1 := D6.out.k1
    refine wp_region_still_tail 3 (by kernel_rfl) (by kernel_rfl) ?_
    simp only [List.take_succ_cons, List.take_zero, List.drop_succ_cons, List.drop_zero]
    change wpStill _ _ A6.drew (fun a' => wpList _ _ _ _ a' A6.drew) _ _
    iterate 3 still_step
    refine wpStill_nil ?_
    go_wp2
    refine bodyPost_ret (v := .tuple #[.slice ja js.length jcap, .agg #[.slice ra 120 rc, .slice fa' (js.length + 1) fc']]) ?_ rfl (D6.out.got hjl (by omega))
    simp [results, Try.results32, go_sem, r0, r1]
  · have h0' : (v == 0) = false := by simpa using h0
    by_cases h1 : v = 1
    · subst h1
      by_cases hjs : 0 < js.length
      · have hjs' : (0 : Int) < js.length := by omega
        obtain ⟨gf, fc', hfa, _, _, _, _, _⟩ := D5.out.of.at hjs
        simp only [Value.slice.injEq] at hfa
        obtain ⟨rfl, _, rfl⟩ := hfa
        have D6 := Lib.hid D5.out.drew
        have cS := D6.out.c1
        clear h0 h0'
        go_wp2_with fail
        refine wp_region_held_drew (S := fun w' => w'.cell? ⟨S, 1, none⟩ = some (.slice (some ⟨gf, 0, none⟩) js.length fc)) (by kernel_rfl) ?_ (fun hHeld => ?_)
        · (try dsimp only)
          (first | exact cS | exact (D8.out.set i2 (IntKind.i64.wrap (u - 1))).c1 | assumption | (go_keep; done) | (simp [go_sem, *]; done))
        refine wpAnyH_take (i := 0) (v := ?_) (toArr_get _ 0 _ rfl) (by kernel_rfl) (by kernel_rfl) (by kernel_rfl) (fun _ _ _ h => h) (Or.inl ⟨by rfl, ?_⟩) (by assumption) ?_
        rotate_left
        · (intro w hSw; (try dsimp only at hSw); go_simp; (try with_reducible rfl))
        (try simp only [Act.put, List.setIfInBounds_toArray, List.set_cons_zero, List.set_cons_succ])
        refine wpAnyH_take (i := 1) (v := ?_) (toArr_get _ 1 _ rfl) (by kernel_rfl) (by kernel_rfl) (by kernel_rfl) (fun _ _ _ h => h) (Or.inl ⟨by rfl, ?_⟩) (by assumption) ?_
        rotate_left
        · (intro w hSw; (try dsimp only at hSw); go_simp; (try with_reducible rfl))
        (try simp only [Act.put, List.setIfInBounds_toArray, List.set_cons_zero, List.set_cons_succ])
        refine wpAnyH_take (i := 2) (v := ?_) (toArr_get _ 2 _ rfl) (by kernel_rfl) (by kernel_rfl) (by kernel_rfl) (fun _ _ _ h => h) (Or.inl ⟨by rfl, ?_⟩) (by assumption) ?_
        rotate_left
        · (intro w hSw; (try dsimp only at hSw); go_simp; (try with_reducible rfl))
        (try simp only [Act.put, List.setIfInBounds_toArray, List.set_cons_zero, List.set_cons_succ])
        refine wpAnyH_take (i := 3) (v := ?_) (toArr_get _ 3 _ rfl) (by kernel_rfl) (by kernel_rfl) (by kernel_rfl) (fun _ _ _ h => h) (Or.inl ⟨by rfl, ?_⟩) (by assumption) ?_
        rotate_left
        · (intro w hSw; (try dsimp only at hSw); go_simp; (try with_reducible rfl))
        (try simp only [Act.put, List.setIfInBounds_toArray, List.set_cons_zero, List.set_cons_succ])
        refine wpAnyH_take (i := 4) (v := ?_) (toArr_get _ 4 _ rfl) (by kernel_rfl) (by kernel_rfl) (by kernel_rfl) (fun _ _ _ h => h) (Or.inl ⟨by rfl, ?_⟩) (by assumption) ?_
        rotate_left
        · (intro w hSw; (try dsimp only at hSw); go_simp; (try with_reducible rfl))
        (try simp only [Act.put, List.setIfInBounds_toArray, List.set_cons_zero, List.set_cons_succ])
        refine wpAnyH_take (i := 6) (v := ?_) (toArr_get _ 6 _ rfl) (by kernel_rfl) (by kernel_rfl) (by kernel_rfl) (fun _ _ _ h => h) (Or.inl ⟨by rfl, ?_⟩) (by assumption) ?_
        rotate_left
        · (intro w hSw; (try dsimp only at hSw); go_simp; (try with_reducible rfl))
        (try simp only [Act.put, List.setIfInBounds_toArray, List.set_cons_zero, List.set_cons_succ])
        refine wpAnyH_ready (rs := [5]) (by kernel_rfl) (by simp) ?_
        refine AllReadyH.cons (toArr_get _ 5 _ rfl) (fun K hK => ?_) ?_
        · go_simp
          go_at_call 61
          refine (pick_any rb 2201 (js.length : Int) _ D6.out.rd (by omega)).mono ?_
          rintro e w7 ⟨i, rfl, i0, i1, _, hg, hr⟩
          have D7 := Lib.hid (D6.out.pick hg hr)
          clear hg hr D6
          obtain ⟨i, rfl⟩ := Int.eq_ofNat_of_zero_le i0
          have i2 : i < js.length := by have := i1 (by omega); omega
          have i3 : (i : Int) < js.length := by omega
          have cS := D7.out.c1
          clear i1
          go_wp2_with fail
          refine hK.out _ _ ?_ (fun hHeld2 => ?_)
          · (try dsimp only)
            (first | exact cS | exact (D8.out.set i2 (IntKind.i64.wrap (u - 1))).c1 | assumption | (go_keep; done) | (simp [go_sem, *]; done))
          clear hK K hHeld
          have hHeld := hHeld2
          clear hHeld2
          (try simp only [Act.put, List.setIfInBounds_toArray, List.set_cons_zero, List.set_cons_succ])
          refine wpAnyH_ready (rs := [7]) (by kernel_rfl) (by simp) ?_
          refine AllReadyH.cons (toArr_get _ 7 _ rfl) (fun K hK => ?_) ?_
          · go_simp
            go_at_call 61
            refine (pick_any rb 2202 122 _ D7.out.rd (by omega)).mono ?_
            rintro e w8 ⟨u, rfl, u0, u1, _, hg, hr⟩
            have D8 := Lib.hid (D7.out.pick hg hr)
            clear hg hr D7
            have u2 := u1 (by decide)
            clear u1 cS
            have cS := D8.out.c1
            have yc := (D8.out.of.cellAt i2).1
            have zc := (D8.out.of.cellAt i2).2.1
            go_wp2_with fail
            refine hK.out _ _ ?_ (fun hHeld2 => ?_)
            · (try dsimp only)
              (first | exact cS | exact (D8.out.set i2 (IntKind.i64.wrap (u - 1))).c1 | assumption | (go_keep; done) | (simp [go_sem, *]; done))
            clear hK K hHeld
            have hHeld := hHeld2
            clear hHeld2
            (try simp only [Act.put, List.setIfInBounds_toArray, List.set_cons_zero, List.set_cons_succ])
            refine wpAnyH_take (i := 8) (v := ?_) (toArr_get _ 8 _ rfl) (by kernel_rfl) (by kernel_rfl) (by kernel_rfl) (fun _ _ _ h => h) (Or.inl ⟨by rfl, ?_⟩) (by assumption) ?_
            rotate_left
            · (intro w hSw; (try dsimp only at hSw); go_simp; (try with_reducible rfl))
            (try simp only [Act.put, List.setIfInBounds_toArray, List.set_cons_zero, List.set_cons_succ])
            refine wpAnyH_take (i := 9) (v := ?_) (toArr_get _ 9 _ rfl) (by kernel_rfl) (by kernel_rfl) (by kernel_rfl) (fun _ _ _ h => h) (Or.inl ⟨by rfl, ?_⟩) (by assumption) ?_
            rotate_left
            · (intro w hSw; (try dsimp only at hSw); go_simp; (try with_reducible rfl))
            (try simp only [Act.put, List.setIfInBounds_toArray, List.set_cons_zero, List.set_cons_succ])
            refine wpAnyH_ready (rs := [10]) (by kernel_rfl) (by simp) ?_
            refine AllReadyH.cons (toArr_get _ 10 _ rfl) (fun K hK => ?_) ?_
            · go_simp
              refine hK.out _ _ ?_ (fun hHeld2 => ?_)
              · (try dsimp only)
                (first | exact cS | exact (D8.out.set i2 (IntKind.i64.wrap (u - 1))).c1 | assumption | (go_keep; done) | (simp [go_sem, *]; done))
              clear hK K hHeld
              have hHeld := hHeld2
              clear hHeld2
              (try simp only [Act.put, List.setIfInBounds_toArray, List.set_cons_zero, List.set_cons_succ])
              refine wpAnyH_done (by kernel_rfl) ?_ _
              have D9 := Lib.hid (D8.out.set i2 (IntKind.i64.wrap (u - 1)))
              clear yc zc cS hHeld
              go_wp2
              generalize hA : w8.setCell ⟨gf, i, none⟩ (.int .i64 (IntKind.i64.wrap (u - 1))) = A8 at D9 ⊢
              clear hA
              have c0 := D9.out.c0
              have c1 := D9.out.c1
              have r0 := D9.out.r0
              have r1 := D9.out.r1
              have k0 := D9.out.k0
              have k1 := D9.out.k1
              refine wp_region_still_tail 3 (by kernel_rfl) (by kernel_rfl) ?_
              simp only [List.take_succ_cons, List.take_zero, List.drop_succ_cons, List.drop_zero]
              change wpStill _ _ A8.drew (fun a' => wpList _ _ _ _ a' A8.drew) _ _
              iterate 3 still_step
              refine wpStill_nil ?_
              go_wp2
              refine bodyPost_ret (v := .tuple #[.slice ja js.length jcap, .agg #[.slice ra 120 rc, .slice (some ⟨gf, 0, none⟩) js.length fc]]) ?_ rfl (D9.out.got hjl (by omega))
              simp [results, Try.results32, go_sem, r0, r1]
            exact AllReadyH.nil
          exact AllReadyH.nil
        exact AllReadyH.nil
      · have hjs' : ¬ (0 : Int) < js.length := by omega
        go_wp2
        have c0 := D5.out.c0
        have c1 := D5.out.c1
        have r0 := D5.out.r0
        have r1 := D5.out.r1
        have k0 := D5.out.k0
        have k1 := D5.out.k1
        refine wp_region_still_tail 3 (by kernel_rfl) (by kernel_rfl) ?_
        simp only [List.take_succ_cons, List.take_zero, List.drop_succ_cons, List.drop_zero]
        change wpStill _ _ w5.drew (fun a' => wpList _ _ _ _ a' w5.drew) _ _
        iterate 3 still_step
        refine wpStill_nil ?_
        go_wp2
        refine bodyPost_ret (v := .tuple #[.slice ja js.length jcap, .agg #[.slice ra 120 rc, .slice fa js.length fc]]) ?_ rfl (D5.out.got hjl (by omega))
        simp [results, Try.results32, go_sem, r0, r1]
    · have h1' : (v == 1) = false := by simpa using h1
      clear h0 h1
      go_wp2
      have c0 := D5.out.c0
      have c1 := D5.out.c1
      have r0 := D5.out.r0
      have r1 := D5.out.r1
      have k0 := D5.out.k0
      have k1 := D5.out.k1
      refine wp_region_still_tail 3 (by kernel_rfl) (by kernel_rfl) ?_
      simp only [List.take_succ_cons, List.take_zero, List.drop_succ_cons, List.drop_zero]
      change wpStill _ _ w5.drew (fun a' => wpList _ _ _ _ a' w5.drew) _ _
      iterate 3 still_step
      refine wpStill_nil ?_
      go_wp2
      refine bodyPost_ret (v := .tuple #[.slice ja js.length jcap, .agg #[.slice ra 120 rc, .slice fa js.length fc]]) ?_ rfl (D5.out.got hjl (by omega))
      simp [results, Try.results32, go_sem, r0, r1]

end Go.Proofs.Ytpnfbgbbmpacfaa
