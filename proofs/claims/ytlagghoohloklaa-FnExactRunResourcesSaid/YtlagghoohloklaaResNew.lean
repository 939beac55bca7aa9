/- Contract of impl.newResourceRun. Conditions: the cells hold what is said; valid arguments. -/
import Derived.Test.YtlagghoohloklaaResBase
namespace Go.Proofs.Ytlagghoohloklaa
open Go.RowKit Go.Deep

/-- impl.earlierDeadline, with the block that it lays. -/
theorem earlierNew (ja : Option Addr) (jcap : Nat) (js : List J4) (w : World) :
    Calls Try.prog 63 #[.slice ja js.length jcap] w fun e w' =>
      e = .returned (.func (.func 108) #[] #[.pointer (some ⟨w.heap.size, 0, none⟩)]) ∧ w' = w.alloc (.cells #[.slice ja js.length jcap] 25) := by
  go_enter Try.func63, Try.ntmps63
  go_wp2
  go_ret
  exact ⟨rfl, rfl⟩
theorem one_cell (v : Value) (k : Nat) (hk : k < (#[v] : Array Value).size) : (#[v] : Array Value)[k]? = some v := by
  match k, hk with
  | 0, _ => rfl
/-- The queue's cells. -/
def FR (c : Nat) : Nat → Value
  | 0 => .slice none 0 0
  | _ => cbV c
theorem two_cells (c : Nat) (k : Nat) (hk : k < (#[.slice none 0 0, cbV c] : Array Value).size) : (#[.slice none 0 0, cbV c] : Array Value)[k]? = some (FR c k) := by
  match k, hk with
  | 0, _ => rfl
  | 1, _ => rfl
theorem cells11 (X : RX) (nt nS n : Nat) (k : Nat) (hk : k < (#[.slice X.a nt X.cap, .slice X.sa nS X.scap, .slice X.ja n X.jcap, .slice (some ⟨X.gc, 0, none⟩) 3 X.cc, .int .i64 0, .pointer (some ⟨X.R, 0, none⟩), .slice none 0 0, .slice none 0 0, .slice (some ⟨X.gd, 0, none⟩) n n, .slice (some ⟨X.gr, 0, none⟩) 120 X.cr, .slice X.fa n X.fc] : Array Value).size) :
    (#[.slice X.a nt X.cap, .slice X.sa nS X.scap, .slice X.ja n X.jcap, .slice (some ⟨X.gc, 0, none⟩) 3 X.cc, .int .i64 0, .pointer (some ⟨X.R, 0, none⟩), .slice none 0 0, .slice none 0 0, .slice (some ⟨X.gd, 0, none⟩) n n, .slice (some ⟨X.gr, 0, none⟩) 120 X.cr, .slice X.fa n X.fc] : Array Value)[k]? = some (X.F nt nS n 0 (.slice none 0 0) (.slice none 0 0) k) := by
  match k, hk with
  | 0, _ | 1, _ | 2, _ | 3, _ | 4, _ | 5, _ | 6, _ | 7, _ | 8, _ | 9, _ | 10, _ => rfl
/-- Some items of a pool, in another order. -/
theorem PS.sel {w wr : World} {L its : List It} (σ : List Nat) (h : PS w wr L) (hs : ∀ (j : Nat) (i : It), its[j]? = some i → ∃ k, σ[j]? = some k ∧ L[k]? = some i) (hd : ∀ (j k p : Nat), σ[j]? = some p → σ[k]? = some p → j = k) : PS w wr its := by
  refine ⟨h.be, ⟨fun j i hj => ?_, fun j k a b hne ha hb => ?_⟩⟩
  · obtain ⟨p, _, hp⟩ := hs j i hj
    exact h.pl.ow p i hp
  · obtain ⟨p, hp1, hp2⟩ := hs j a ha
    obtain ⟨q, hq1, hq2⟩ := hs k b hb
    exact h.pl.ap p q a b (fun e => hne (hd j k p hp1 (e ▸ hq1))) hp2 hq2
def σ5 (p q r s t : Nat) : List Nat := [p, q, r, s, t]
/-- The simulation's state, out of the blocks that have been laid. -/
theorem RS.make {w wr : World} {L : List It} {X : RX} {ts ss : List T3} {js : List J4} (pB p5 p12 p13 p16 pc pR : Nat) (h : PS w wr L) (hd5 : (σ5 pB p5 p12 p13 p16).Nodup) (hd : [pB, p5, p12, p13, p16, pc, pR].Nodup)
    (hB : L[pB]? = some (itB 79 11 X.B (X.F ts.length ss.length js.length 0 (.slice none 0 0) (.slice none 0 0))))
    (h5 : L[p5]? = some (itN (.slice (some ⟨X.gc, 0, none⟩) 3 X.cc) 3 (fun r => (ce ts ss r : Nat))))
    (h12 : L[p12]? = some (itN (.slice (some ⟨X.gd, 0, none⟩) js.length js.length) js.length (dnF (srpP ts ss js).gen 0)))
    (h13 : L[p13]? = some (itN (.slice (some ⟨X.gr, 0, none⟩) 120 X.cr) 120 (rnF ts ss js 0)))
    (h16 : L[p16]? = some (itN (.slice X.fa js.length X.fc) js.length ((srpP ts ss js).gen.fin 0)))
    (hc : L[pc]? = some (itB 25 1 X.c (fun _ => .slice X.ja js.length X.jcap)))
    (hR : L[pR]? = some (itB 117 2 X.R (FR X.c))) (hcR : X.c < X.R) :
    Sim w X ts ss js wr 0 (dnF (srpP ts ss js).gen 0) (rnF ts ss js 0) ((srpP ts ss js).gen.fin 0) (.slice none 0 0) 0 (fun _ => 0) (.slice none 0 0) 0 (fun _ => 0) (.slice none 0 0) 0 (fun _ => 0) := by
  simp only [List.nodup_cons, List.mem_cons, List.not_mem_nil, or_false, not_or] at hd
  have h0 : PS w wr [itB 79 11 X.B (X.F ts.length ss.length js.length 0 (.slice none 0 0) (.slice none 0 0)), itN (.slice (some ⟨X.gc, 0, none⟩) 3 X.cc) 3 (fun r => (ce ts ss r : Nat)), itN (.slice (some ⟨X.gd, 0, none⟩) js.length js.length) js.length (dnF (srpP ts ss js).gen 0), itN (.slice (some ⟨X.gr, 0, none⟩) 120 X.cr) 120 (rnF ts ss js 0), itN (.slice X.fa js.length X.fc) js.length ((srpP ts ss js).gen.fin 0)] := by
    refine PS.sel (σ5 pB p5 p12 p13 p16) h (fun j i hj => ?_) (fun j k p hj hk => ?_)
    · match j, hj with
      | 0, hj => exact ⟨pB, rfl, by rw [hB]; exact hj⟩
      | 1, hj => exact ⟨p5, rfl, by rw [h5]; exact hj⟩
      | 2, hj => exact ⟨p12, rfl, by rw [h12]; exact hj⟩
      | 3, hj => exact ⟨p13, rfl, by rw [h13]; exact hj⟩
      | 4, hj => exact ⟨p16, rfl, by rw [h16]; exact hj⟩
      | j + 5, hj => simp at hj
    · exact (List.getElem?_inj (List.getElem?_eq_some_iff.1 hj).1 hd5).1 (hj.trans hk.symm)
  have off : ∀ (p : Nat) (i : It), L[p]? = some i → p ≠ pc → p ≠ pR → Off X.R X.c (.slice none 0 0) i := fun p i hp h1 h2 =>
    ⟨fun e => h.pl.ap p pR i _ h2 hp hR X.R e rfl, fun e => h.pl.ap p pc i _ h1 hp hc X.c e rfl, fun k _ hv => by simp [Value.ownBlock] at hv⟩
  refine ⟨(h0.nilN (cN fun _ => 0)).nilN (cN fun _ => 0), hcR, (h.lt hR).1, h.cell hR 0 (by decide), h.cell hR 1 (by decide), h.frz hR 0, h.cell hc 0 (by decide), OwnI.nil _ _ _, fun j i hj => ?_, fun k hk => absurd hk (Nat.not_lt_zero _)⟩
  match j, hj with
  | 0, hj => exact off pB i (by rw [hB]; exact hj) (by omega) (by omega)
  | 1, hj => exact off p5 i (by rw [h5]; exact hj) (by omega) (by omega)
  | 2, hj => exact off p12 i (by rw [h12]; exact hj) (by omega) (by omega)
  | 3, hj => exact off p13 i (by rw [h13]; exact hj) (by omega) (by omega)
  | 4, hj => exact off p16 i (by rw [h16]; exact hj) (by omega) (by omega)
  | 5, hj =>
    obtain rfl := Option.some.inj hj
    exact ⟨fun e => by simp [itN, Value.ownBlock] at e, fun e => by simp [itN, Value.ownBlock] at e, fun k hk => by simp [itN, Value.ownBlock] at hk⟩
  | 6, hj =>
    obtain rfl := Option.some.inj hj
    exact ⟨fun e => by simp [itN, Value.ownBlock] at e, fun e => by simp [itN, Value.ownBlock] at e, fun k hk => by simp [itN, Value.ownBlock] at hk⟩
  | j + 7, hj => simp [RX.its] at hj

set_option maxRecDepth 100000 in
set_option maxHeartbeats 8000000 in
/-- impl.newResourceRun. -/
theorem newRun_any (a sa ja : Option Addr) (cap scap jcap : Nat) (ts ss : List T3) (js : List J4) (w : World) (hr : Row w a ts) (hs : Row w sa ss) (hok : okR ts ss js = true) (hb : StB ss) (hn : ts.length ≤ 1099511627776) (hsn : ss.length ≤ 1099511627776) :
    Calls Try.prog 48 #[.slice a ts.length cap, .slice sa ss.length scap, .slice ja js.length jcap] w fun e w' =>
      ∃ X : RX, X.a = a ∧ X.sa = sa ∧ X.ja = ja ∧ e = .returned (.pointer (some ⟨X.B, 0, none⟩)) ∧ Sim w X ts ss js w' 0 (dnF (srpP ts ss js).gen 0) (rnF ts ss js 0) ((srpP ts ss js).gen.fin 0) (.slice none 0 0) 0 (fun _ => 0) (.slice none 0 0) 0 (fun _ => 0) (.slice none 0 0) 0 (fun _ => 0) := by
  have HR := Lib.hid hr
  have HS := Lib.hid hs
  have HSB := Lib.hid hb
  have h60 := (legB_iff.1 (okR_iff.1 hok).2).2.1
  have HCE := Lib.hid (show ceL ts ss = 3 from if_pos (okR_iff.1 hok).1)
  have hmk := run_make_ints js.length (by omega)
  have H0 := Lib.hid (PS.start w).drew
  clear hr hs hb hok
  go_enter Try.func48, Try.ntmps48
  go_wp2
  obtain ⟨c0, hc0⟩ : ∃ c0, c0 = w.drew := ⟨_, rfl⟩
  rw [← hc0] at H0
  refine wp_region_held_drew (S := fun _ => True) (by kernel_rfl) ?_ (fun hHeld => ?_)
  · (try dsimp only)
    (all_goals trivial)
  rw [← hc0]
  clear hc0
  refine wpAnyH_take (i := 0) (v := ?_) (toArr_get _ 0 _ rfl) (by kernel_rfl) (by kernel_rfl) (by kernel_rfl) (fun _ _ _ h => h) (Or.inl ⟨by rfl, ?_⟩) (by assumption) ?_
  rotate_left
  · (intro w hSw; (try dsimp only at hSw); go_simp; (try with_reducible rfl))
  (try simp only [Act.put, List.setIfInBounds_toArray, List.set_cons_zero, List.set_cons_succ])
  refine wpAnyH_take (i := 1) (v := ?_) (toArr_get _ 1 _ rfl) (by kernel_rfl) (by kernel_rfl) (by kernel_rfl) (fun _ _ _ h => h) (Or.inl ⟨by rfl, ?_⟩) (by assumption) ?_
  rotate_left
  · (intro w hSw; (try dsimp only at hSw); go_simp; (try with_reducible rfl))
  (try simp only [Act.put, List.setIfInBounds_toArray, List.set_cons_zero, List.set_cons_succ])
  refine wpAnyH_take (i := 2) (v := ?_) (toArr_get _ 2 _ rfl) (by kernel_rfl) (by kernel_rfl) (by kernel_rfl) (fun _ _ _ h => h) (Or.inl ⟨by rfl, ?_⟩) (by assumption) ?_
  rotate_left
  · (intro w hSw; (try dsimp only at hSw); go_simp; (try with_reducible rfl))
  (try simp only [Act.put, List.setIfInBounds_toArray, List.set_cons_zero, List.set_cons_succ])
  refine wpAnyH_take (i := 3) (v := ?_) (toArr_get _ 3 _ rfl) (by kernel_rfl) (by kernel_rfl) (by kernel_rfl) (fun _ _ _ h => h) (Or.inl ⟨by rfl, ?_⟩) (by assumption) ?_
  rotate_left
  · (intro w hSw; (try dsimp only at hSw); go_simp; (try with_reducible rfl))
  (try simp only [Act.put, List.setIfInBounds_toArray, List.set_cons_zero, List.set_cons_succ])
  refine wpAnyH_take (i := 4) (v := ?_) (toArr_get _ 4 _ rfl) (by kernel_rfl) (by kernel_rfl) (by kernel_rfl) (fun _ _ _ h => h) (Or.inl ⟨by rfl, ?_⟩) (by assumption) ?_
  rotate_left
  · (intro w hSw; (try dsimp only at hSw); go_simp; (try with_reducible rfl))
  (try simp only [Act.put, List.setIfInBounds_toArray, List.set_cons_zero, List.set_cons_succ])
  refine wpAnyH_take (i := 6) (v := ?_) (toArr_get _ 6 _ rfl) (by kernel_rfl) (by kernel_rfl) (by kernel_rfl) (fun _ _ _ h => h) (Or.inl ⟨by rfl, ?_⟩) (by assumption) ?_
  rotate_left
  · (intro w hSw; (try dsimp only at hSw); go_simp; (try with_reducible rfl))
  (try simp only [Act.put, List.setIfInBounds_toArray, List.set_cons_zero, List.set_cons_succ])
  refine wpAnyH_take (i := 10) (v := ?_) (toArr_get _ 10 _ rfl) (by kernel_rfl) (by kernel_rfl) (by kernel_rfl) (fun _ _ _ h => h) (Or.inl ⟨by rfl, ?_⟩) (by assumption) ?_
  rotate_left
  · (intro w hSw; (try dsimp only at hSw); go_simp; (try with_reducible rfl))
  (try simp only [Act.put, List.setIfInBounds_toArray, List.set_cons_zero, List.set_cons_succ])
  refine wpAnyH_take (i := 11) (v := ?_) (toArr_get _ 11 _ rfl) (by kernel_rfl) (by kernel_rfl) (by kernel_rfl) (fun _ _ _ h => h) (Or.inl ⟨by rfl, ?_⟩) (by assumption) ?_
  rotate_left
  · (intro w hSw; (try dsimp only at hSw); go_simp; (try with_reducible rfl))
  (try simp only [Act.put, List.setIfInBounds_toArray, List.set_cons_zero, List.set_cons_succ])
  refine wpAnyH_take (i := 14) (v := ?_) (toArr_get _ 14 _ rfl) (by kernel_rfl) (by kernel_rfl) (by kernel_rfl) (fun _ _ _ h => h) (Or.inl ⟨by rfl, ?_⟩) (by assumption) ?_
  rotate_left
  · (intro w hSw; (try dsimp only at hSw); go_simp; (try with_reducible rfl))
  (try simp only [Act.put, List.setIfInBounds_toArray, List.set_cons_zero, List.set_cons_succ])
  refine wpAnyH_take (i := 15) (v := ?_) (toArr_get _ 15 _ rfl) (by kernel_rfl) (by kernel_rfl) (by kernel_rfl) (fun _ _ _ h => h) (Or.inl ⟨by rfl, ?_⟩) (by assumption) ?_
  rotate_left
  · (intro w hSw; (try dsimp only at hSw); go_simp; (try with_reducible rfl))
  (try simp only [Act.put, List.setIfInBounds_toArray, List.set_cons_zero, List.set_cons_succ])
  refine wpAnyH_ready (rs := [5, 12]) (by kernel_rfl) (by simp) ?_
  refine AllReadyH.cons (toArr_get _ 5 _ rfl) (fun K hK => ?_) ?_
  · go_simp
    refine (ceilings_any a sa cap scap ts ss _ (HR.out.below H0.out.be) (HS.out.below H0.out.be) HSB.out hn hsn).mono ?_
    rintro e c1 ⟨⟨v5, rfl, o5⟩, b5⟩
    rw [HCE.out] at o5
    obtain ⟨ga, cc, rfl⟩ := own_shape o5
    obtain ⟨gc, rfl⟩ := own_some' o5 (by omega)
    have H1 := Lib.hid (H0.out.addN b5 o5)
    clear o5 b5
    go_wp2_with fail
    refine hK.out _ _ ?_ (fun hHeld2 => ?_)
    · (try dsimp only)
      (all_goals trivial)
    clear hK K hHeld
    have hHeld := hHeld2
    clear hHeld2
    (try simp only [Act.put, List.setIfInBounds_toArray, List.set_cons_zero, List.set_cons_succ])
    refine wpAnyH_ready (rs := [7, 12]) (by kernel_rfl) (by simp) ?_
    refine AllReadyH.cons (toArr_get _ 7 _ rfl) (fun K hK => ?_) ?_
    · go_simp
      refine (earlierNew ja jcap js _).mono ?_
      rintro e c2 ⟨rfl, hc⟩
      have h := H1.out.addB 25 #[.slice ja js.length jcap] (fun _ => .slice ja js.length jcap) (by simp) (fun k hk => one_cell _ k hk)
      rw [← hc] at h
      obtain ⟨c, hcc⟩ : ∃ c, c = c1.heap.size := ⟨_, rfl⟩
      rw [← hcc] at h ⊢
      have H2 := Lib.hid h
      clear h hc hcc
      go_wp2_with fail
      refine hK.out _ _ ?_ (fun hHeld2 => ?_)
      · (try dsimp only)
        (all_goals trivial)
      clear hK K hHeld
      have hHeld := hHeld2
      clear hHeld2
      (try simp only [Act.put, List.setIfInBounds_toArray, List.set_cons_zero, List.set_cons_succ])
      refine wpAnyH_take (i := 8) (v := ?_) (toArr_get _ 8 _ rfl) (by kernel_rfl) (by kernel_rfl) (by kernel_rfl) (fun _ _ _ h => h) (Or.inl ⟨by rfl, ?_⟩) (by assumption) ?_
      rotate_left
      · (intro w hSw; (try dsimp only at hSw); go_simp; (try with_reducible rfl))
      (try simp only [Act.put, List.setIfInBounds_toArray, List.set_cons_zero, List.set_cons_succ])
      refine wpAnyH_ready (rs := [9, 12, 13]) (by kernel_rfl) (by simp) ?_
      refine AllReadyH.cons (toArr_get _ 9 _ rfl) (fun K hK => ?_) ?_
      · go_simp
        obtain ⟨c3, hc⟩ : ∃ c3, c3 = c2.alloc (.cells #[.slice none 0 0, .func (.func 108) #[] #[.pointer (some ⟨c, 0, none⟩)]] 117) := ⟨_, rfl⟩
        rw [← hc]
        have h := H2.out.addB 117 #[.slice none 0 0, .func (.func 108) #[] #[.pointer (some ⟨c, 0, none⟩)]] (FR c) (by simp) (fun k hk => two_cells _ k hk)
        rw [← hc] at h
        obtain ⟨R, hR⟩ : ∃ R, R = c2.heap.size := ⟨_, rfl⟩
        rw [← hR] at h ⊢
        have hcR : c < R := by rw [hR]; exact (H2.out.lt (j := 1) rfl).2
        have H3 := Lib.hid h
        clear h hc hR
        refine hK.out _ _ ?_ (fun hHeld2 => ?_)
        · (try dsimp only)
          (all_goals trivial)
        clear hK K hHeld
        have hHeld := hHeld2
        clear hHeld2
        (try simp only [Act.put, List.setIfInBounds_toArray, List.set_cons_zero, List.set_cons_succ])
        refine wpAnyH_ready (rs := [12, 13]) (by kernel_rfl) (by simp) ?_
        refine AllReadyH.cons (toArr_get _ 12 _ rfl) (fun K hK => ?_) ?_
        · go_simp
          obtain ⟨c4, hc⟩ : ∃ c4, c4 = c3.alloc (.cells (madeCells #[.int .i64 0] js.length) 3) := ⟨_, rfl⟩
          rw [← hc]
          have h := H3.out.addN (below_box c3 (.cells (madeCells #[.int .i64 0] js.length) 3)) (made_own c3 js.length (dnF (srpP ts ss js).gen 0) (by unfold maxLen; omega) (fun k _ => by unfold dnF; rw [show (srpP ts ss js).gen.left 0 k = (srpP ts ss js).gen.ex k from rfl, Nat.sub_self]; rfl))
          rw [← hc] at h
          obtain ⟨gd, hgd⟩ : ∃ gd, gd = c3.heap.size := ⟨_, rfl⟩
          rw [← hgd] at h ⊢
          have H4 := Lib.hid h
          clear h hc hgd
          refine hK.out _ _ ?_ (fun hHeld2 => ?_)
          · (try dsimp only)
            (all_goals trivial)
          clear hK K hHeld
          have hHeld := hHeld2
          clear hHeld2
          (try simp only [Act.put, List.setIfInBounds_toArray, List.set_cons_zero, List.set_cons_succ])
          refine wpAnyH_ready (rs := [13]) (by kernel_rfl) (by simp) ?_
          refine AllReadyH.cons (toArr_get _ 13 _ rfl) (fun K hK => ?_) ?_
          · go_simp
            refine (missing120 _).mono ?_
            rintro e c5 ⟨v13, rfl, o13, b13⟩
            obtain ⟨gra, cr, rfl⟩ := own_shape o13
            obtain ⟨gr, rfl⟩ := own_some' o13 (by omega)
            have H5 := Lib.hid (H4.out.addN b13 (o13.congr (f' := rnF ts ss js 0) (fun k _ => by unfold rnF; rw [if_neg (Nat.not_lt_zero _)])))
            clear o13 b13
            go_wp2_with fail
            refine hK.out _ _ ?_ (fun hHeld2 => ?_)
            · (try dsimp only)
              (all_goals trivial)
            clear hK K hHeld
            have hHeld := hHeld2
            clear hHeld2
            (try simp only [Act.put, List.setIfInBounds_toArray, List.set_cons_zero, List.set_cons_succ])
            refine wpAnyH_ready (rs := [16]) (by kernel_rfl) (by simp) ?_
            refine AllReadyH.cons (toArr_get _ 16 _ rfl) (fun K hK => ?_) ?_
            · go_simp
              refine (missing_any js.length _ (by omega)).mono ?_
              rintro e c6 ⟨v16, rfl, o16, b16⟩
              obtain ⟨fa, fc, rfl⟩ := own_shape o16
              have H6 := Lib.hid (H5.out.addN b16 (o16.congr (f' := (srpP ts ss js).gen.fin 0) (fun k _ => rfl)))
              clear o16 b16
              go_wp2_with fail
              refine hK.out _ _ ?_ (fun hHeld2 => ?_)
              · (try dsimp only)
                (all_goals trivial)
              clear hK K hHeld
              have hHeld := hHeld2
              clear hHeld2
              (try simp only [Act.put, List.setIfInBounds_toArray, List.set_cons_zero, List.set_cons_succ])
              refine wpAnyH_take (i := 17) (v := ?_) (toArr_get _ 17 _ rfl) (by kernel_rfl) (by kernel_rfl) (by kernel_rfl) (fun _ _ _ h => h) (Or.inl ⟨by rfl, ?_⟩) (by assumption) ?_
              rotate_left
              · (intro w hSw; (try dsimp only at hSw); go_simp; (try with_reducible rfl))
              (try simp only [Act.put, List.setIfInBounds_toArray, List.set_cons_zero, List.set_cons_succ])
              refine wpAnyH_take (i := 18) (v := ?_) (toArr_get _ 18 _ rfl) (by kernel_rfl) (by kernel_rfl) (by kernel_rfl) (fun _ _ _ h => h) (Or.inl ⟨by rfl, ?_⟩) (by assumption) ?_
              rotate_left
              · (intro w hSw; (try dsimp only at hSw); go_simp; (try with_reducible rfl))
              (try simp only [Act.put, List.setIfInBounds_toArray, List.set_cons_zero, List.set_cons_succ])
              refine wpAnyH_ready (rs := [19]) (by kernel_rfl) (by simp) ?_
              refine AllReadyH.cons (toArr_get _ 19 _ rfl) (fun K hK => ?_) ?_
              · go_simp
                obtain ⟨c7, hc⟩ : ∃ c7, c7 = c6.alloc (.cells #[.slice a ts.length cap, .slice sa ss.length scap, .slice ja js.length jcap, .slice (some ⟨gc, 0, none⟩) 3 cc, .int .i64 0, .pointer (some ⟨R, 0, none⟩), .slice none 0 0, .slice none 0 0, .slice (some ⟨gd, 0, none⟩) js.length js.length, .slice (some ⟨gr, 0, none⟩) 120 cr, .slice fa js.length fc] 79) := ⟨_, rfl⟩
                rw [← hc]
                obtain ⟨B, hB⟩ : ∃ B, B = c6.heap.size := ⟨_, rfl⟩
                have h := H6.out.addB 79 #[.slice a ts.length cap, .slice sa ss.length scap, .slice ja js.length jcap, .slice (some ⟨gc, 0, none⟩) 3 cc, .int .i64 0, .pointer (some ⟨R, 0, none⟩), .slice none 0 0, .slice none 0 0, .slice (some ⟨gd, 0, none⟩) js.length js.length, .slice (some ⟨gr, 0, none⟩) 120 cr, .slice fa js.length fc] (RX.F ⟨a, cap, sa, scap, ja, jcap, gc, cc, gd, gr, cr, fa, fc, R, c, B⟩ ts.length ss.length js.length 0 (.slice none 0 0) (.slice none 0 0)) (by simp) (fun k hk => cells11 ⟨a, cap, sa, scap, ja, jcap, gc, cc, gd, gr, cr, fa, fc, R, c, B⟩ _ _ _ k hk)
                rw [← hc] at h
                rw [← hB] at h ⊢
                have H7 := Lib.hid h
                clear h hc hB
                refine hK.out _ _ ?_ (fun hHeld2 => ?_)
                · (try dsimp only)
                  (all_goals trivial)
                clear hK K hHeld
                have hHeld := hHeld2
                clear hHeld2
                (try simp only [Act.put, List.setIfInBounds_toArray, List.set_cons_zero, List.set_cons_succ])
                refine wpAnyH_take (i := 20) (v := ?_) (toArr_get _ 20 _ rfl) (by kernel_rfl) (by kernel_rfl) (by kernel_rfl) (fun _ _ _ h => h) (Or.inl ⟨by rfl, ?_⟩) (by assumption) ?_
                rotate_left
                · (intro w hSw; (try dsimp only at hSw); go_simp; (try with_reducible rfl))
                (try simp only [Act.put, List.setIfInBounds_toArray, List.set_cons_zero, List.set_cons_succ])
                refine wpAnyH_done (by kernel_rfl) ?_ _
                go_wp2
                go_ret
                exact ⟨⟨a, cap, sa, scap, ja, jcap, gc, cc, gd, gr, cr, fa, fc, R, c, B⟩, rfl, rfl, rfl, rfl, RS.make (X := ⟨a, cap, sa, scap, ja, jcap, gc, cc, gd, gr, cr, fa, fc, R, c, B⟩) 6 0 3 4 5 1 2 H7.out (by decide) (by decide) rfl rfl rfl rfl rfl rfl rfl hcR⟩
              exact AllReadyH.nil
            exact AllReadyH.nil
          exact AllReadyH.nil
        refine AllReadyH.cons (toArr_get _ 13 _ rfl) (fun K hK => ?_) ?_
        · go_simp
          refine (missing120 _).mono ?_
          rintro e c4 ⟨v13, rfl, o13, b13⟩
          obtain ⟨gra, cr, rfl⟩ := own_shape o13
          obtain ⟨gr, rfl⟩ := own_some' o13 (by omega)
          have H4 := Lib.hid (H3.out.addN b13 (o13.congr (f' := rnF ts ss js 0) (fun k _ => by unfold rnF; rw [if_neg (Nat.not_lt_zero _)])))
          clear o13 b13
          go_wp2_with fail
          refine hK.out _ _ ?_ (fun hHeld2 => ?_)
          · (try dsimp only)
            (all_goals trivial)
          clear hK K hHeld
          have hHeld := hHeld2
          clear hHeld2
          (try simp only [Act.put, List.setIfInBounds_toArray, List.set_cons_zero, List.set_cons_succ])
          refine wpAnyH_ready (rs := [12, 16]) (by kernel_rfl) (by simp) ?_
          refine AllReadyH.cons (toArr_get _ 12 _ rfl) (fun K hK => ?_) ?_
          · go_simp
            obtain ⟨c5, hc⟩ : ∃ c5, c5 = c4.alloc (.cells (madeCells #[.int .i64 0] js.length) 3) := ⟨_, rfl⟩
            rw [← hc]
            have h := H4.out.addN (below_box c4 (.cells (madeCells #[.int .i64 0] js.length) 3)) (made_own c4 js.length (dnF (srpP ts ss js).gen 0) (by unfold maxLen; omega) (fun k _ => by unfold dnF; rw [show (srpP ts ss js).gen.left 0 k = (srpP ts ss js).gen.ex k from rfl, Nat.sub_self]; rfl))
            rw [← hc] at h
            obtain ⟨gd, hgd⟩ : ∃ gd, gd = c4.heap.size := ⟨_, rfl⟩
            rw [← hgd] at h ⊢
            have H5 := Lib.hid h
            clear h hc hgd
            refine hK.out _ _ ?_ (fun hHeld2 => ?_)
            · (try dsimp only)
              (all_goals trivial)
            clear hK K hHeld
            have hHeld := hHeld2
            clear hHeld2
            (try simp only [Act.put, List.setIfInBounds_toArray, List.set_cons_zero, List.set_cons_succ])
            refine wpAnyH_ready (rs := [16]) (by kernel_rfl) (by simp) ?_
            refine AllReadyH.cons (toArr_get _ 16 _ rfl) (fun K hK => ?_) ?_
            · go_simp
              refine (missing_any js.length _ (by omega)).mono ?_
              rintro e c6 ⟨v16, rfl, o16, b16⟩
              obtain ⟨fa, fc, rfl⟩ := own_shape o16
              have H6 := Lib.hid (H5.out.addN b16 (o16.congr (f' := (srpP ts ss js).gen.fin 0) (fun k _ => rfl)))
              clear o16 b16
              go_wp2_with fail
              refine hK.out _ _ ?_ (fun hHeld2 => ?_)
              · (try dsimp only)
                (all_goals trivial)
              clear hK K hHeld
              have hHeld := hHeld2
              clear hHeld2
              (try simp only [Act.put, List.setIfInBounds_toArray, List.set_cons_zero, List.set_cons_succ])
              refine wpAnyH_take (i := 17) (v := ?_) (toArr_get _ 17 _ rfl) (by kernel_rfl) (by kernel_rfl) (by kernel_rfl) (fun _ _ _ h => h) (Or.inl ⟨by rfl, ?_⟩) (by assumption) ?_
              rotate_left
              · (intro w hSw; (try dsimp only at hSw); go_simp; (try with_reducible rfl))
              (try simp only [Act.put, List.setIfInBounds_toArray, List.set_cons_zero, List.set_cons_succ])
              refine wpAnyH_take (i := 18) (v := ?_) (toArr_get _ 18 _ rfl) (by kernel_rfl) (by kernel_rfl) (by kernel_rfl) (fun _ _ _ h => h) (Or.inl ⟨by rfl, ?_⟩) (by assumption) ?_
              rotate_left
              · (intro w hSw; (try dsimp only at hSw); go_simp; (try with_reducible rfl))
              (try simp only [Act.put, List.setIfInBounds_toArray, List.set_cons_zero, List.set_cons_succ])
              refine wpAnyH_ready (rs := [19]) (by kernel_rfl) (by simp) ?_
              refine AllReadyH.cons (toArr_get _ 19 _ rfl) (fun K hK => ?_) ?_
              · go_simp
                obtain ⟨c7, hc⟩ : ∃ c7, c7 = c6.alloc (.cells #[.slice a ts.length cap, .slice sa ss.length scap, .slice ja js.length jcap, .slice (some ⟨gc, 0, none⟩) 3 cc, .int .i64 0, .pointer (some ⟨R, 0, none⟩), .slice none 0 0, .slice none 0 0, .slice (some ⟨gd, 0, none⟩) js.length js.length, .slice (some ⟨gr, 0, none⟩) 120 cr, .slice fa js.length fc] 79) := ⟨_, rfl⟩
                rw [← hc]
                obtain ⟨B, hB⟩ : ∃ B, B = c6.heap.size := ⟨_, rfl⟩
                have h := H6.out.addB 79 #[.slice a ts.length cap, .slice sa ss.length scap, .slice ja js.length jcap, .slice (some ⟨gc, 0, none⟩) 3 cc, .int .i64 0, .pointer (some ⟨R, 0, none⟩), .slice none 0 0, .slice none 0 0, .slice (some ⟨gd, 0, none⟩) js.length js.length, .slice (some ⟨gr, 0, none⟩) 120 cr, .slice fa js.length fc] (RX.F ⟨a, cap, sa, scap, ja, jcap, gc, cc, gd, gr, cr, fa, fc, R, c, B⟩ ts.length ss.length js.length 0 (.slice none 0 0) (.slice none 0 0)) (by simp) (fun k hk => cells11 ⟨a, cap, sa, scap, ja, jcap, gc, cc, gd, gr, cr, fa, fc, R, c, B⟩ _ _ _ k hk)
                rw [← hc] at h
                rw [← hB] at h ⊢
                have H7 := Lib.hid h
                clear h hc hB
                refine hK.out _ _ ?_ (fun hHeld2 => ?_)
                · (try dsimp only)
                  (all_goals trivial)
                clear hK K hHeld
                have hHeld := hHeld2
                clear hHeld2
                (try simp only [Act.put, List.setIfInBounds_toArray, List.set_cons_zero, List.set_cons_succ])
                refine wpAnyH_take (i := 20) (v := ?_) (toArr_get _ 20 _ rfl) (by kernel_rfl) (by kernel_rfl) (by kernel_rfl) (fun _ _ _ h => h) (Or.inl ⟨by rfl, ?_⟩) (by assumption) ?_
                rotate_left
                · (intro w hSw; (try dsimp only at hSw); go_simp; (try with_reducible rfl))
                (try simp only [Act.put, List.setIfInBounds_toArray, List.set_cons_zero, List.set_cons_succ])
                refine wpAnyH_done (by kernel_rfl) ?_ _
                go_wp2
                go_ret
                exact ⟨⟨a, cap, sa, scap, ja, jcap, gc, cc, gd, gr, cr, fa, fc, R, c, B⟩, rfl, rfl, rfl, rfl, RS.make (X := ⟨a, cap, sa, scap, ja, jcap, gc, cc, gd, gr, cr, fa, fc, R, c, B⟩) 6 0 4 3 5 1 2 H7.out (by decide) (by decide) rfl rfl rfl rfl rfl rfl rfl hcR⟩
              exact AllReadyH.nil
            exact AllReadyH.nil
          refine AllReadyH.cons (toArr_get _ 16 _ rfl) (fun K hK => ?_) ?_
          · go_simp
            refine (missing_any js.length _ (by omega)).mono ?_
            rintro e c5 ⟨v16, rfl, o16, b16⟩
            obtain ⟨fa, fc, rfl⟩ := own_shape o16
            have H5 := Lib.hid (H4.out.addN b16 (o16.congr (f' := (srpP ts ss js).gen.fin 0) (fun k _ => rfl)))
            clear o16 b16
            go_wp2_with fail
            refine hK.out _ _ ?_ (fun hHeld2 => ?_)
            · (try dsimp only)
              (all_goals trivial)
            clear hK K hHeld
            have hHeld := hHeld2
            clear hHeld2
            (try simp only [Act.put, List.setIfInBounds_toArray, List.set_cons_zero, List.set_cons_succ])
            refine wpAnyH_take (i := 17) (v := ?_) (toArr_get _ 17 _ rfl) (by kernel_rfl) (by kernel_rfl) (by kernel_rfl) (fun _ _ _ h => h) (Or.inl ⟨by rfl, ?_⟩) (by assumption) ?_
            rotate_left
            · (intro w hSw; (try dsimp only at hSw); go_simp; (try with_reducible rfl))
            (try simp only [Act.put, List.setIfInBounds_toArray, List.set_cons_zero, List.set_cons_succ])
            refine wpAnyH_ready (rs := [12]) (by kernel_rfl) (by simp) ?_
            refine AllReadyH.cons (toArr_get _ 12 _ rfl) (fun K hK => ?_) ?_
            · go_simp
              obtain ⟨c6, hc⟩ : ∃ c6, c6 = c5.alloc (.cells (madeCells #[.int .i64 0] js.length) 3) := ⟨_, rfl⟩
              rw [← hc]
              have h := H5.out.addN (below_box c5 (.cells (madeCells #[.int .i64 0] js.length) 3)) (made_own c5 js.length (dnF (srpP ts ss js).gen 0) (by unfold maxLen; omega) (fun k _ => by unfold dnF; rw [show (srpP ts ss js).gen.left 0 k = (srpP ts ss js).gen.ex k from rfl, Nat.sub_self]; rfl))
              rw [← hc] at h
              obtain ⟨gd, hgd⟩ : ∃ gd, gd = c5.heap.size := ⟨_, rfl⟩
              rw [← hgd] at h ⊢
              have H6 := Lib.hid h
              clear h hc hgd
              refine hK.out _ _ ?_ (fun hHeld2 => ?_)
              · (try dsimp only)
                (all_goals trivial)
              clear hK K hHeld
              have hHeld := hHeld2
              clear hHeld2
              (try simp only [Act.put, List.setIfInBounds_toArray, List.set_cons_zero, List.set_cons_succ])
              refine wpAnyH_take (i := 18) (v := ?_) (toArr_get _ 18 _ rfl) (by kernel_rfl) (by kernel_rfl) (by kernel_rfl) (fun _ _ _ h => h) (Or.inl ⟨by rfl, ?_⟩) (by assumption) ?_
              rotate_left
              · (intro w hSw; (try dsimp only at hSw); go_simp; (try with_reducible rfl))
              (try simp only [Act.put, List.setIfInBounds_toArray, List.set_cons_zero, List.set_cons_succ])
              refine wpAnyH_ready (rs := [19]) (by kernel_rfl) (by simp) ?_
              refine AllReadyH.cons (toArr_get _ 19 _ rfl) (fun K hK => ?_) ?_
              · go_simp
                obtain ⟨c7, hc⟩ : ∃ c7, c7 = c6.alloc (.cells #[.slice a ts.length cap, .slice sa ss.length scap, .slice ja js.length jcap, .slice (some ⟨gc, 0, none⟩) 3 cc, .int .i64 0, .pointer (some ⟨R, 0, none⟩), .slice none 0 0, .slice none 0 0, .slice (some ⟨gd, 0, none⟩) js.length js.length, .slice (some ⟨gr, 0, none⟩) 120 cr, .slice fa js.length fc] 79) := ⟨_, rfl⟩
                rw [← hc]
                obtain ⟨B, hB⟩ : ∃ B, B = c6.heap.size := ⟨_, rfl⟩
                have h := H6.out.addB 79 #[.slice a ts.length cap, .slice sa ss.length scap, .slice ja js.length jcap, .slice (some ⟨gc, 0, none⟩) 3 cc, .int .i64 0, .pointer (some ⟨R, 0, none⟩), .slice none 0 0, .slice none 0 0, .slice (some ⟨gd, 0, none⟩) js.length js.length, .slice (some ⟨gr, 0, none⟩) 120 cr, .slice fa js.length fc] (RX.F ⟨a, cap, sa, scap, ja, jcap, gc, cc, gd, gr, cr, fa, fc, R, c, B⟩ ts.length ss.length js.length 0 (.slice none 0 0) (.slice none 0 0)) (by simp) (fun k hk => cells11 ⟨a, cap, sa, scap, ja, jcap, gc, cc, gd, gr, cr, fa, fc, R, c, B⟩ _ _ _ k hk)
                rw [← hc] at h
                rw [← hB] at h ⊢
                have H7 := Lib.hid h
                clear h hc hB
                refine hK.out _ _ ?_ (fun hHeld2 => ?_)
                · (try dsimp only)
                  (all_goals trivial)
                clear hK K hHeld
                have hHeld := hHeld2
                clear hHeld2
                (try simp only [Act.put, List.setIfInBounds_toArray, List.set_cons_zero, List.set_cons_succ])
                refine wpAnyH_take (i := 20) (v := ?_) (toArr_get _ 20 _ rfl) (by kernel_rfl) (by kernel_rfl) (by kernel_rfl) (fun _ _ _ h => h) (Or.inl ⟨by rfl, ?_⟩) (by assumption) ?_
                rotate_left
                · (intro w hSw; (try dsimp only at hSw); go_simp; (try with_reducible rfl))
                (try simp only [Act.put, List.setIfInBounds_toArray, List.set_cons_zero, List.set_cons_succ])
                refine wpAnyH_done (by kernel_rfl) ?_ _
                go_wp2
                go_ret
                exact ⟨⟨a, cap, sa, scap, ja, jcap, gc, cc, gd, gr, cr, fa, fc, R, c, B⟩, rfl, rfl, rfl, rfl, RS.make (X := ⟨a, cap, sa, scap, ja, jcap, gc, cc, gd, gr, cr, fa, fc, R, c, B⟩) 6 0 5 3 4 1 2 H7.out (by decide) (by decide) rfl rfl rfl rfl rfl rfl rfl hcR⟩
              exact AllReadyH.nil
            exact AllReadyH.nil
          exact AllReadyH.nil
        exact AllReadyH.nil
      refine AllReadyH.cons (toArr_get _ 12 _ rfl) (fun K hK => ?_) ?_
      · go_simp
        obtain ⟨c3, hc⟩ : ∃ c3, c3 = c2.alloc (.cells (madeCells #[.int .i64 0] js.length) 3) := ⟨_, rfl⟩
        rw [← hc]
        have h := H2.out.addN (below_box c2 (.cells (madeCells #[.int .i64 0] js.length) 3)) (made_own c2 js.length (dnF (srpP ts ss js).gen 0) (by unfold maxLen; omega) (fun k _ => by unfold dnF; rw [show (srpP ts ss js).gen.left 0 k = (srpP ts ss js).gen.ex k from rfl, Nat.sub_self]; rfl))
        rw [← hc] at h
        obtain ⟨gd, hgd⟩ : ∃ gd, gd = c2.heap.size := ⟨_, rfl⟩
        rw [← hgd] at h ⊢
        have H3 := Lib.hid h
        clear h hc hgd
        refine hK.out _ _ ?_ (fun hHeld2 => ?_)
        · (try dsimp only)
          (all_goals trivial)
        clear hK K hHeld
        have hHeld := hHeld2
        clear hHeld2
        (try simp only [Act.put, List.setIfInBounds_toArray, List.set_cons_zero, List.set_cons_succ])
        refine wpAnyH_ready (rs := [9, 13]) (by kernel_rfl) (by simp) ?_
        refine AllReadyH.cons (toArr_get _ 9 _ rfl) (fun K hK => ?_) ?_
        · go_simp
          obtain ⟨c4, hc⟩ : ∃ c4, c4 = c3.alloc (.cells #[.slice none 0 0, .func (.func 108) #[] #[.pointer (some ⟨c, 0, none⟩)]] 117) := ⟨_, rfl⟩
          rw [← hc]
          have h := H3.out.addB 117 #[.slice none 0 0, .func (.func 108) #[] #[.pointer (some ⟨c, 0, none⟩)]] (FR c) (by simp) (fun k hk => two_cells _ k hk)
          rw [← hc] at h
          obtain ⟨R, hR⟩ : ∃ R, R = c3.heap.size := ⟨_, rfl⟩
          rw [← hR] at h ⊢
          have hcR : c < R := by rw [hR]; exact (H3.out.lt (j := 1) rfl).2
          have H4 := Lib.hid h
          clear h hc hR
          refine hK.out _ _ ?_ (fun hHeld2 => ?_)
          · (try dsimp only)
            (all_goals trivial)
          clear hK K hHeld
          have hHeld := hHeld2
          clear hHeld2
          (try simp only [Act.put, List.setIfInBounds_toArray, List.set_cons_zero, List.set_cons_succ])
          refine wpAnyH_ready (rs := [13]) (by kernel_rfl) (by simp) ?_
          refine AllReadyH.cons (toArr_get _ 13 _ rfl) (fun K hK => ?_) ?_
          · go_simp
            refine (missing120 _).mono ?_
            rintro e c5 ⟨v13, rfl, o13, b13⟩
            obtain ⟨gra, cr, rfl⟩ := own_shape o13
            obtain ⟨gr, rfl⟩ := own_some' o13 (by omega)
            have H5 := Lib.hid (H4.out.addN b13 (o13.congr (f' := rnF ts ss js 0) (fun k _ => by unfold rnF; rw [if_neg (Nat.not_lt_zero _)])))
            clear o13 b13
            go_wp2_with fail
            refine hK.out _ _ ?_ (fun hHeld2 => ?_)
            · (try dsimp only)
              (all_goals trivial)
            clear hK K hHeld
            have hHeld := hHeld2
            clear hHeld2
            (try simp only [Act.put, List.setIfInBounds_toArray, List.set_cons_zero, List.set_cons_succ])
            refine wpAnyH_ready (rs := [16]) (by kernel_rfl) (by simp) ?_
            refine AllReadyH.cons (toArr_get _ 16 _ rfl) (fun K hK => ?_) ?_
            · go_simp
              refine (missing_any js.length _ (by omega)).mono ?_
              rintro e c6 ⟨v16, rfl, o16, b16⟩
              obtain ⟨fa, fc, rfl⟩ := own_shape o16
              have H6 := Lib.hid (H5.out.addN b16 (o16.congr (f' := (srpP ts ss js).gen.fin 0) (fun k _ => rfl)))
              clear o16 b16
              go_wp2_with fail
              refine hK.out _ _ ?_ (fun hHeld2 => ?_)
              · (try dsimp only)
                (all_goals trivial)
              clear hK K hHeld
              have hHeld := hHeld2
              clear hHeld2
              (try simp only [Act.put, List.setIfInBounds_toArray, List.set_cons_zero, List.set_cons_succ])
              refine wpAnyH_take (i := 17) (v := ?_) (toArr_get _ 17 _ rfl) (by kernel_rfl) (by kernel_rfl) (by kernel_rfl) (fun _ _ _ h => h) (Or.inl ⟨by rfl, ?_⟩) (by assumption) ?_
              rotate_left
              · (intro w hSw; (try dsimp only at hSw); go_simp; (try with_reducible rfl))
              (try simp only [Act.put, List.setIfInBounds_toArray, List.set_cons_zero, List.set_cons_succ])
              refine wpAnyH_take (i := 18) (v := ?_) (toArr_get _ 18 _ rfl) (by kernel_rfl) (by kernel_rfl) (by kernel_rfl) (fun _ _ _ h => h) (Or.inl ⟨by rfl, ?_⟩) (by assumption) ?_
              rotate_left
              · (intro w hSw; (try dsimp only at hSw); go_simp; (try with_reducible rfl))
              (try simp only [Act.put, List.setIfInBounds_toArray, List.set_cons_zero, List.set_cons_succ])
              refine wpAnyH_ready (rs := [19]) (by kernel_rfl) (by simp) ?_
              refine AllReadyH.cons (toArr_get _ 19 _ rfl) (fun K hK => ?_) ?_
              · go_simp
                obtain ⟨c7, hc⟩ : ∃ c7, c7 = c6.alloc (.cells #[.slice a ts.length cap, .slice sa ss.length scap, .slice ja js.length jcap, .slice (some ⟨gc, 0, none⟩) 3 cc, .int .i64 0, .pointer (some ⟨R, 0, none⟩), .slice none 0 0, .slice none 0 0, .slice (some ⟨gd, 0, none⟩) js.length js.length, .slice (some ⟨gr, 0, none⟩) 120 cr, .slice fa js.length fc] 79) := ⟨_, rfl⟩
                rw [← hc]
                obtain ⟨B, hB⟩ : ∃ B, B = c6.heap.size := ⟨_, rfl⟩
                have h := H6.out.addB 79 #[.slice a ts.length cap, .slice sa ss.length scap, .slice ja js.length jcap, .slice (some ⟨gc, 0, none⟩) 3 cc, .int .i64 0, .pointer (some ⟨R, 0, none⟩), .slice none 0 0, .slice none 0 0, .slice (some ⟨gd, 0, none⟩) js.length js.length, .slice (some ⟨gr, 0, none⟩) 120 cr, .slice fa js.length fc] (RX.F ⟨a, cap, sa, scap, ja, jcap, gc, cc, gd, gr, cr, fa, fc, R, c, B⟩ ts.length ss.length js.length 0 (.slice none 0 0) (.slice none 0 0)) (by simp) (fun k hk => cells11 ⟨a, cap, sa, scap, ja, jcap, gc, cc, gd, gr, cr, fa, fc, R, c, B⟩ _ _ _ k hk)
                rw [← hc] at h
                rw [← hB] at h ⊢
                have H7 := Lib.hid h
                clear h hc hB
                refine hK.out _ _ ?_ (fun hHeld2 => ?_)
                · (try dsimp only)
                  (all_goals trivial)
                clear hK K hHeld
                have hHeld := hHeld2
                clear hHeld2
                (try simp only [Act.put, List.setIfInBounds_toArray, List.set_cons_zero, List.set_cons_succ])
                refine wpAnyH_take (i := 20) (v := ?_) (toArr_get _ 20 _ rfl) (by kernel_rfl) (by kernel_rfl) (by kernel_rfl) (fun _ _ _ h => h) (Or.inl ⟨by rfl, ?_⟩) (by assumption) ?_
                rotate_left
                · (intro w hSw; (try dsimp only at hSw); go_simp; (try with_reducible rfl))
                (try simp only [Act.put, List.setIfInBounds_toArray, List.set_cons_zero, List.set_cons_succ])
                refine wpAnyH_done (by kernel_rfl) ?_ _
                go_wp2
                go_ret
                exact ⟨⟨a, cap, sa, scap, ja, jcap, gc, cc, gd, gr, cr, fa, fc, R, c, B⟩, rfl, rfl, rfl, rfl, RS.make (X := ⟨a, cap, sa, scap, ja, jcap, gc, cc, gd, gr, cr, fa, fc, R, c, B⟩) 6 0 2 4 5 1 3 H7.out (by decide) (by decide) rfl rfl rfl rfl rfl rfl rfl hcR⟩
              exact AllReadyH.nil
            exact AllReadyH.nil
          exact AllReadyH.nil
        refine AllReadyH.cons (toArr_get _ 13 _ rfl) (fun K hK => ?_) ?_
        · go_simp
          refine (missing120 _).mono ?_
          rintro e c4 ⟨v13, rfl, o13, b13⟩
          obtain ⟨gra, cr, rfl⟩ := own_shape o13
          obtain ⟨gr, rfl⟩ := own_some' o13 (by omega)
          have H4 := Lib.hid (H3.out.addN b13 (o13.congr (f' := rnF ts ss js 0) (fun k _ => by unfold rnF; rw [if_neg (Nat.not_lt_zero _)])))
          clear o13 b13
          go_wp2_with fail
          refine hK.out _ _ ?_ (fun hHeld2 => ?_)
          · (try dsimp only)
            (all_goals trivial)
          clear hK K hHeld
          have hHeld := hHeld2
          clear hHeld2
          (try simp only [Act.put, List.setIfInBounds_toArray, List.set_cons_zero, List.set_cons_succ])
          refine wpAnyH_ready (rs := [9, 16]) (by kernel_rfl) (by simp) ?_
          refine AllReadyH.cons (toArr_get _ 9 _ rfl) (fun K hK => ?_) ?_
          · go_simp
            obtain ⟨c5, hc⟩ : ∃ c5, c5 = c4.alloc (.cells #[.slice none 0 0, .func (.func 108) #[] #[.pointer (some ⟨c, 0, none⟩)]] 117) := ⟨_, rfl⟩
            rw [← hc]
            have h := H4.out.addB 117 #[.slice none 0 0, .func (.func 108) #[] #[.pointer (some ⟨c, 0, none⟩)]] (FR c) (by simp) (fun k hk => two_cells _ k hk)
            rw [← hc] at h
            obtain ⟨R, hR⟩ : ∃ R, R = c4.heap.size := ⟨_, rfl⟩
            rw [← hR] at h ⊢
            have hcR : c < R := by rw [hR]; exact (H4.out.lt (j := 1) rfl).2
            have H5 := Lib.hid h
            clear h hc hR
            refine hK.out _ _ ?_ (fun hHeld2 => ?_)
            · (try dsimp only)
              (all_goals trivial)
            clear hK K hHeld
            have hHeld := hHeld2
            clear hHeld2
            (try simp only [Act.put, List.setIfInBounds_toArray, List.set_cons_zero, List.set_cons_succ])
            refine wpAnyH_ready (rs := [16]) (by kernel_rfl) (by simp) ?_
            refine AllReadyH.cons (toArr_get _ 16 _ rfl) (fun K hK => ?_) ?_
            · go_simp
              refine (missing_any js.length _ (by omega)).mono ?_
              rintro e c6 ⟨v16, rfl, o16, b16⟩
              obtain ⟨fa, fc, rfl⟩ := own_shape o16
              have H6 := Lib.hid (H5.out.addN b16 (o16.congr (f' := (srpP ts ss js).gen.fin 0) (fun k _ => rfl)))
              clear o16 b16
              go_wp2_with fail
              refine hK.out _ _ ?_ (fun hHeld2 => ?_)
              · (try dsimp only)
                (all_goals trivial)
              clear hK K hHeld
              have hHeld := hHeld2
              clear hHeld2
              (try simp only [Act.put, List.setIfInBounds_toArray, List.set_cons_zero, List.set_cons_succ])
              refine wpAnyH_take (i := 17) (v := ?_) (toArr_get _ 17 _ rfl) (by kernel_rfl) (by kernel_rfl) (by kernel_rfl) (fun _ _ _ h => h) (Or.inl ⟨by rfl, ?_⟩) (by assumption) ?_
              rotate_left
              · (intro w hSw; (try dsimp only at hSw); go_simp; (try with_reducible rfl))
              (try simp only [Act.put, List.setIfInBounds_toArray, List.set_cons_zero, List.set_cons_succ])
              refine wpAnyH_take (i := 18) (v := ?_) (toArr_get _ 18 _ rfl) (by kernel_rfl) (by kernel_rfl) (by kernel_rfl) (fun _ _ _ h => h) (Or.inl ⟨by rfl, ?_⟩) (by assumption) ?_
              rotate_left
              · (intro w hSw; (try dsimp only at hSw); go_simp; (try with_reducible rfl))
              (try simp only [Act.put, List.setIfInBounds_toArray, List.set_cons_zero, List.set_cons_succ])
              refine wpAnyH_ready (rs := [19]) (by kernel_rfl) (by simp) ?_
              refine AllReadyH.cons (toArr_get _ 19 _ rfl) (fun K hK => ?_) ?_
              · go_simp
                obtain ⟨c7, hc⟩ : ∃ c7, c7 = c6.alloc (.cells #[.slice a ts.length cap, .slice sa ss.length scap, .slice ja js.length jcap, .slice (some ⟨gc, 0, none⟩) 3 cc, .int .i64 0, .pointer (some ⟨R, 0, none⟩), .slice none 0 0, .slice none 0 0, .slice (some ⟨gd, 0, none⟩) js.length js.length, .slice (some ⟨gr, 0, none⟩) 120 cr, .slice fa js.length fc] 79) := ⟨_, rfl⟩
                rw [← hc]
                obtain ⟨B, hB⟩ : ∃ B, B = c6.heap.size := ⟨_, rfl⟩
                have h := H6.out.addB 79 #[.slice a ts.length cap, .slice sa ss.length scap, .slice ja js.length jcap, .slice (some ⟨gc, 0, none⟩) 3 cc, .int .i64 0, .pointer (some ⟨R, 0, none⟩), .slice none 0 0, .slice none 0 0, .slice (some ⟨gd, 0, none⟩) js.length js.length, .slice (some ⟨gr, 0, none⟩) 120 cr, .slice fa js.length fc] (RX.F ⟨a, cap, sa, scap, ja, jcap, gc, cc, gd, gr, cr, fa, fc, R, c, B⟩ ts.length ss.length js.length 0 (.slice none 0 0) (.slice none 0 0)) (by simp) (fun k hk => cells11 ⟨a, cap, sa, scap, ja, jcap, gc, cc, gd, gr, cr, fa, fc, R, c, B⟩ _ _ _ k hk)
                rw [← hc] at h
                rw [← hB] at h ⊢
                have H7 := Lib.hid h
                clear h hc hB
                refine hK.out _ _ ?_ (fun hHeld2 => ?_)
                · (try dsimp only)
                  (all_goals trivial)
                clear hK K hHeld
                have hHeld := hHeld2
                clear hHeld2
                (try simp only [Act.put, List.setIfInBounds_toArray, List.set_cons_zero, List.set_cons_succ])
                refine wpAnyH_take (i := 20) (v := ?_) (toArr_get _ 20 _ rfl) (by kernel_rfl) (by kernel_rfl) (by kernel_rfl) (fun _ _ _ h => h) (Or.inl ⟨by rfl, ?_⟩) (by assumption) ?_
                rotate_left
                · (intro w hSw; (try dsimp only at hSw); go_simp; (try with_reducible rfl))
                (try simp only [Act.put, List.setIfInBounds_toArray, List.set_cons_zero, List.set_cons_succ])
                refine wpAnyH_done (by kernel_rfl) ?_ _
                go_wp2
                go_ret
                exact ⟨⟨a, cap, sa, scap, ja, jcap, gc, cc, gd, gr, cr, fa, fc, R, c, B⟩, rfl, rfl, rfl, rfl, RS.make (X := ⟨a, cap, sa, scap, ja, jcap, gc, cc, gd, gr, cr, fa, fc, R, c, B⟩) 6 0 2 3 5 1 4 H7.out (by decide) (by decide) rfl rfl rfl rfl rfl rfl rfl hcR⟩
              exact AllReadyH.nil
            exact AllReadyH.nil
          refine AllReadyH.cons (toArr_get _ 16 _ rfl) (fun K hK => ?_) ?_
          · go_simp
            refine (missing_any js.length _ (by omega)).mono ?_
            rintro e c5 ⟨v16, rfl, o16, b16⟩
            obtain ⟨fa, fc, rfl⟩ := own_shape o16
            have H5 := Lib.hid (H4.out.addN b16 (o16.congr (f' := (srpP ts ss js).gen.fin 0) (fun k _ => rfl)))
            clear o16 b16
            go_wp2_with fail
            refine hK.out _ _ ?_ (fun hHeld2 => ?_)
            · (try dsimp only)
              (all_goals trivial)
            clear hK K hHeld
            have hHeld := hHeld2
            clear hHeld2
            (try simp only [Act.put, List.setIfInBounds_toArray, List.set_cons_zero, List.set_cons_succ])
            refine wpAnyH_take (i := 17) (v := ?_) (toArr_get _ 17 _ rfl) (by kernel_rfl) (by kernel_rfl) (by kernel_rfl) (fun _ _ _ h => h) (Or.inl ⟨by rfl, ?_⟩) (by assumption) ?_
            rotate_left
            · (intro w hSw; (try dsimp only at hSw); go_simp; (try with_reducible rfl))
            (try simp only [Act.put, List.setIfInBounds_toArray, List.set_cons_zero, List.set_cons_succ])
            refine wpAnyH_ready (rs := [9]) (by kernel_rfl) (by simp) ?_
            refine AllReadyH.cons (toArr_get _ 9 _ rfl) (fun K hK => ?_) ?_
            · go_simp
              obtain ⟨c6, hc⟩ : ∃ c6, c6 = c5.alloc (.cells #[.slice none 0 0, .func (.func 108) #[] #[.pointer (some ⟨c, 0, none⟩)]] 117) := ⟨_, rfl⟩
              rw [← hc]
              have h := H5.out.addB 117 #[.slice none 0 0, .func (.func 108) #[] #[.pointer (some ⟨c, 0, none⟩)]] (FR c) (by simp) (fun k hk => two_cells _ k hk)
              rw [← hc] at h
              obtain ⟨R, hR⟩ : ∃ R, R = c5.heap.size := ⟨_, rfl⟩
              rw [← hR] at h ⊢
              have hcR : c < R := by rw [hR]; exact (H5.out.lt (j := 1) rfl).2
              have H6 := Lib.hid h
              clear h hc hR
              refine hK.out _ _ ?_ (fun hHeld2 => ?_)
              · (try dsimp only)
                (all_goals trivial)
              clear hK K hHeld
              have hHeld := hHeld2
              clear hHeld2
              (try simp only [Act.put, List.setIfInBounds_toArray, List.set_cons_zero, List.set_cons_succ])
              refine wpAnyH_take (i := 18) (v := ?_) (toArr_get _ 18 _ rfl) (by kernel_rfl) (by kernel_rfl) (by kernel_rfl) (fun _ _ _ h => h) (Or.inl ⟨by rfl, ?_⟩) (by assumption) ?_
              rotate_left
              · (intro w hSw; (try dsimp only at hSw); go_simp; (try with_reducible rfl))
              (try simp only [Act.put, List.setIfInBounds_toArray, List.set_cons_zero, List.set_cons_succ])
              refine wpAnyH_ready (rs := [19]) (by kernel_rfl) (by simp) ?_
              refine AllReadyH.cons (toArr_get _ 19 _ rfl) (fun K hK => ?_) ?_
              · go_simp
                obtain ⟨c7, hc⟩ : ∃ c7, c7 = c6.alloc (.cells #[.slice a ts.length cap, .slice sa ss.length scap, .slice ja js.length jcap, .slice (some ⟨gc, 0, none⟩) 3 cc, .int .i64 0, .pointer (some ⟨R, 0, none⟩), .slice none 0 0, .slice none 0 0, .slice (some ⟨gd, 0, none⟩) js.length js.length, .slice (some ⟨gr, 0, none⟩) 120 cr, .slice fa js.length fc] 79) := ⟨_, rfl⟩
                rw [← hc]
                obtain ⟨B, hB⟩ : ∃ B, B = c6.heap.size := ⟨_, rfl⟩
                have h := H6.out.addB 79 #[.slice a ts.length cap, .slice sa ss.length scap, .slice ja js.length jcap, .slice (some ⟨gc, 0, none⟩) 3 cc, .int .i64 0, .pointer (some ⟨R, 0, none⟩), .slice none 0 0, .slice none 0 0, .slice (some ⟨gd, 0, none⟩) js.length js.length, .slice (some ⟨gr, 0, none⟩) 120 cr, .slice fa js.length fc] (RX.F ⟨a, cap, sa, scap, ja, jcap, gc, cc, gd, gr, cr, fa, fc, R, c, B⟩ ts.length ss.length js.length 0 (.slice none 0 0) (.slice none 0 0)) (by simp) (fun k hk => cells11 ⟨a, cap, sa, scap, ja, jcap, gc, cc, gd, gr, cr, fa, fc, R, c, B⟩ _ _ _ k hk)
                rw [← hc] at h
                rw [← hB] at h ⊢
                have H7 := Lib.hid h
                clear h hc hB
                refine hK.out _ _ ?_ (fun hHeld2 => ?_)
                · (try dsimp only)
                  (all_goals trivial)
                clear hK K hHeld
                have hHeld := hHeld2
                clear hHeld2
                (try simp only [Act.put, List.setIfInBounds_toArray, List.set_cons_zero, List.set_cons_succ])
                refine wpAnyH_take (i := 20) (v := ?_) (toArr_get _ 20 _ rfl) (by kernel_rfl) (by kernel_rfl) (by kernel_rfl) (fun _ _ _ h => h) (Or.inl ⟨by rfl, ?_⟩) (by assumption) ?_
                rotate_left
                · (intro w hSw; (try dsimp only at hSw); go_simp; (try with_reducible rfl))
                (try simp only [Act.put, List.setIfInBounds_toArray, List.set_cons_zero, List.set_cons_succ])
                refine wpAnyH_done (by kernel_rfl) ?_ _
                go_wp2
                go_ret
                exact ⟨⟨a, cap, sa, scap, ja, jcap, gc, cc, gd, gr, cr, fa, fc, R, c, B⟩, rfl, rfl, rfl, rfl, RS.make (X := ⟨a, cap, sa, scap, ja, jcap, gc, cc, gd, gr, cr, fa, fc, R, c, B⟩) 6 0 2 3 4 1 5 H7.out (by decide) (by decide) rfl rfl rfl rfl rfl rfl rfl hcR⟩
              exact AllReadyH.nil
            exact AllReadyH.nil
          exact AllReadyH.nil
        exact AllReadyH.nil
      refine AllReadyH.cons (toArr_get _ 13 _ rfl) (fun K hK => ?_) ?_
      · go_simp
        refine (missing120 _).mono ?_
        rintro e c3 ⟨v13, rfl, o13, b13⟩
        obtain ⟨gra, cr, rfl⟩ := own_shape o13
        obtain ⟨gr, rfl⟩ := own_some' o13 (by omega)
        have H3 := Lib.hid (H2.out.addN b13 (o13.congr (f' := rnF ts ss js 0) (fun k _ => by unfold rnF; rw [if_neg (Nat.not_lt_zero _)])))
        clear o13 b13
        go_wp2_with fail
        refine hK.out _ _ ?_ (fun hHeld2 => ?_)
        · (try dsimp only)
          (all_goals trivial)
        clear hK K hHeld
        have hHeld := hHeld2
        clear hHeld2
        (try simp only [Act.put, List.setIfInBounds_toArray, List.set_cons_zero, List.set_cons_succ])
        refine wpAnyH_ready (rs := [9, 12, 16]) (by kernel_rfl) (by simp) ?_
        refine AllReadyH.cons (toArr_get _ 9 _ rfl) (fun K hK => ?_) ?_
        · go_simp
          obtain ⟨c4, hc⟩ : ∃ c4, c4 = c3.alloc (.cells #[.slice none 0 0, .func (.func 108) #[] #[.pointer (some ⟨c, 0, none⟩)]] 117) := ⟨_, rfl⟩
          rw [← hc]
          have h := H3.out.addB 117 #[.slice none 0 0, .func (.func 108) #[] #[.pointer (some ⟨c, 0, none⟩)]] (FR c) (by simp) (fun k hk => two_cells _ k hk)
          rw [← hc] at h
          obtain ⟨R, hR⟩ : ∃ R, R = c3.heap.size := ⟨_, rfl⟩
          rw [← hR] at h ⊢
          have hcR : c < R := by rw [hR]; exact (H3.out.lt (j := 1) rfl).2
          have H4 := Lib.hid h
          clear h hc hR
          refine hK.out _ _ ?_ (fun hHeld2 => ?_)
          · (try dsimp only)
            (all_goals trivial)
          clear hK K hHeld
          have hHeld := hHeld2
          clear hHeld2
          (try simp only [Act.put, List.setIfInBounds_toArray, List.set_cons_zero, List.set_cons_succ])
          refine wpAnyH_ready (rs := [12, 16]) (by kernel_rfl) (by simp) ?_
          refine AllReadyH.cons (toArr_get _ 12 _ rfl) (fun K hK => ?_) ?_
          · go_simp
            obtain ⟨c5, hc⟩ : ∃ c5, c5 = c4.alloc (.cells (madeCells #[.int .i64 0] js.length) 3) := ⟨_, rfl⟩
            rw [← hc]
            have h := H4.out.addN (below_box c4 (.cells (madeCells #[.int .i64 0] js.length) 3)) (made_own c4 js.length (dnF (srpP ts ss js).gen 0) (by unfold maxLen; omega) (fun k _ => by unfold dnF; rw [show (srpP ts ss js).gen.left 0 k = (srpP ts ss js).gen.ex k from rfl, Nat.sub_self]; rfl))
            rw [← hc] at h
            obtain ⟨gd, hgd⟩ : ∃ gd, gd = c4.heap.size := ⟨_, rfl⟩
            rw [← hgd] at h ⊢
            have H5 := Lib.hid h
            clear h hc hgd
            refine hK.out _ _ ?_ (fun hHeld2 => ?_)
            · (try dsimp only)
              (all_goals trivial)
            clear hK K hHeld
            have hHeld := hHeld2
            clear hHeld2
            (try simp only [Act.put, List.setIfInBounds_toArray, List.set_cons_zero, List.set_cons_succ])
            refine wpAnyH_ready (rs := [16]) (by kernel_rfl) (by simp) ?_
            refine AllReadyH.cons (toArr_get _ 16 _ rfl) (fun K hK => ?_) ?_
            · go_simp
              refine (missing_any js.length _ (by omega)).mono ?_
              rintro e c6 ⟨v16, rfl, o16, b16⟩
              obtain ⟨fa, fc, rfl⟩ := own_shape o16
              have H6 := Lib.hid (H5.out.addN b16 (o16.congr (f' := (srpP ts ss js).gen.fin 0) (fun k _ => rfl)))
              clear o16 b16
              go_wp2_with fail
              refine hK.out _ _ ?_ (fun hHeld2 => ?_)
              · (try dsimp only)
                (all_goals trivial)
              clear hK K hHeld
              have hHeld := hHeld2
              clear hHeld2
              (try simp only [Act.put, List.setIfInBounds_toArray, List.set_cons_zero, List.set_cons_succ])
              refine wpAnyH_take (i := 17) (v := ?_) (toArr_get _ 17 _ rfl) (by kernel_rfl) (by kernel_rfl) (by kernel_rfl) (fun _ _ _ h => h) (Or.inl ⟨by rfl, ?_⟩) (by assumption) ?_
              rotate_left
              · (intro w hSw; (try dsimp only at hSw); go_simp; (try with_reducible rfl))
              (try simp only [Act.put, List.setIfInBounds_toArray, List.set_cons_zero, List.set_cons_succ])
              refine wpAnyH_take (i := 18) (v := ?_) (toArr_get _ 18 _ rfl) (by kernel_rfl) (by kernel_rfl) (by kernel_rfl) (fun _ _ _ h => h) (Or.inl ⟨by rfl, ?_⟩) (by assumption) ?_
              rotate_left
              · (intro w hSw; (try dsimp only at hSw); go_simp; (try with_reducible rfl))
              (try simp only [Act.put, List.setIfInBounds_toArray, List.set_cons_zero, List.set_cons_succ])
              refine wpAnyH_ready (rs := [19]) (by kernel_rfl) (by simp) ?_
              refine AllReadyH.cons (toArr_get _ 19 _ rfl) (fun K hK => ?_) ?_
              · go_simp
                obtain ⟨c7, hc⟩ : ∃ c7, c7 = c6.alloc (.cells #[.slice a ts.length cap, .slice sa ss.length scap, .slice ja js.length jcap, .slice (some ⟨gc, 0, none⟩) 3 cc, .int .i64 0, .pointer (some ⟨R, 0, none⟩), .slice none 0 0, .slice none 0 0, .slice (some ⟨gd, 0, none⟩) js.length js.length, .slice (some ⟨gr, 0, none⟩) 120 cr, .slice fa js.length fc] 79) := ⟨_, rfl⟩
                rw [← hc]
                obtain ⟨B, hB⟩ : ∃ B, B = c6.heap.size := ⟨_, rfl⟩
                have h := H6.out.addB 79 #[.slice a ts.length cap, .slice sa ss.length scap, .slice ja js.length jcap, .slice (some ⟨gc, 0, none⟩) 3 cc, .int .i64 0, .pointer (some ⟨R, 0, none⟩), .slice none 0 0, .slice none 0 0, .slice (some ⟨gd, 0, none⟩) js.length js.length, .slice (some ⟨gr, 0, none⟩) 120 cr, .slice fa js.length fc] (RX.F ⟨a, cap, sa, scap, ja, jcap, gc, cc, gd, gr, cr, fa, fc, R, c, B⟩ ts.length ss.length js.length 0 (.slice none 0 0) (.slice none 0 0)) (by simp) (fun k hk => cells11 ⟨a, cap, sa, scap, ja, jcap, gc, cc, gd, gr, cr, fa, fc, R, c, B⟩ _ _ _ k hk)
                rw [← hc] at h
                rw [← hB] at h ⊢
                have H7 := Lib.hid h
                clear h hc hB
                refine hK.out _ _ ?_ (fun hHeld2 => ?_)
                · (try dsimp only)
                  (all_goals trivial)
                clear hK K hHeld
                have hHeld := hHeld2
                clear hHeld2
                (try simp only [Act.put, List.setIfInBounds_toArray, List.set_cons_zero, List.set_cons_succ])
                refine wpAnyH_take (i := 20) (v := ?_) (toArr_get _ 20 _ rfl) (by kernel_rfl) (by kernel_rfl) (by kernel_rfl) (fun _ _ _ h => h) (Or.inl ⟨by rfl, ?_⟩) (by assumption) ?_
                rotate_left
                · (intro w hSw; (try dsimp only at hSw); go_simp; (try with_reducible rfl))
                (try simp only [Act.put, List.setIfInBounds_toArray, List.set_cons_zero, List.set_cons_succ])
                refine wpAnyH_done (by kernel_rfl) ?_ _
                go_wp2
                go_ret
                exact ⟨⟨a, cap, sa, scap, ja, jcap, gc, cc, gd, gr, cr, fa, fc, R, c, B⟩, rfl, rfl, rfl, rfl, RS.make (X := ⟨a, cap, sa, scap, ja, jcap, gc, cc, gd, gr, cr, fa, fc, R, c, B⟩) 6 0 4 2 5 1 3 H7.out (by decide) (by decide) rfl rfl rfl rfl rfl rfl rfl hcR⟩
              exact AllReadyH.nil
            exact AllReadyH.nil
          refine AllReadyH.cons (toArr_get _ 16 _ rfl) (fun K hK => ?_) ?_
          · go_simp
            refine (missing_any js.length _ (by omega)).mono ?_
            rintro e c5 ⟨v16, rfl, o16, b16⟩
            obtain ⟨fa, fc, rfl⟩ := own_shape o16
            have H5 := Lib.hid (H4.out.addN b16 (o16.congr (f' := (srpP ts ss js).gen.fin 0) (fun k _ => rfl)))
            clear o16 b16
            go_wp2_with fail
            refine hK.out _ _ ?_ (fun hHeld2 => ?_)
            · (try dsimp only)
              (all_goals trivial)
            clear hK K hHeld
            have hHeld := hHeld2
            clear hHeld2
            (try simp only [Act.put, List.setIfInBounds_toArray, List.set_cons_zero, List.set_cons_succ])
            refine wpAnyH_take (i := 17) (v := ?_) (toArr_get _ 17 _ rfl) (by kernel_rfl) (by kernel_rfl) (by kernel_rfl) (fun _ _ _ h => h) (Or.inl ⟨by rfl, ?_⟩) (by assumption) ?_
            rotate_left
            · (intro w hSw; (try dsimp only at hSw); go_simp; (try with_reducible rfl))
            (try simp only [Act.put, List.setIfInBounds_toArray, List.set_cons_zero, List.set_cons_succ])
            refine wpAnyH_ready (rs := [12]) (by kernel_rfl) (by simp) ?_
            refine AllReadyH.cons (toArr_get _ 12 _ rfl) (fun K hK => ?_) ?_
            · go_simp
              obtain ⟨c6, hc⟩ : ∃ c6, c6 = c5.alloc (.cells (madeCells #[.int .i64 0] js.length) 3) := ⟨_, rfl⟩
              rw [← hc]
              have h := H5.out.addN (below_box c5 (.cells (madeCells #[.int .i64 0] js.length) 3)) (made_own c5 js.length (dnF (srpP ts ss js).gen 0) (by unfold maxLen; omega) (fun k _ => by unfold dnF; rw [show (srpP ts ss js).gen.left 0 k = (srpP ts ss js).gen.ex k from rfl, Nat.sub_self]; rfl))
              rw [← hc] at h
              obtain ⟨gd, hgd⟩ : ∃ gd, gd = c5.heap.size := ⟨_, rfl⟩
              rw [← hgd] at h ⊢
              have H6 := Lib.hid h
              clear h hc hgd
              refine hK.out _ _ ?_ (fun hHeld2 => ?_)
              · (try dsimp only)
                (all_goals trivial)
              clear hK K hHeld
              have hHeld := hHeld2
              clear hHeld2
              (try simp only [Act.put, List.setIfInBounds_toArray, List.set_cons_zero, List.set_cons_succ])
              refine wpAnyH_take (i := 18) (v := ?_) (toArr_get _ 18 _ rfl) (by kernel_rfl) (by kernel_rfl) (by kernel_rfl) (fun _ _ _ h => h) (Or.inl ⟨by rfl, ?_⟩) (by assumption) ?_
              rotate_left
              · (intro w hSw; (try dsimp only at hSw); go_simp; (try with_reducible rfl))
              (try simp only [Act.put, List.setIfInBounds_toArray, List.set_cons_zero, List.set_cons_succ])
              refine wpAnyH_ready (rs := [19]) (by kernel_rfl) (by simp) ?_
              refine AllReadyH.cons (toArr_get _ 19 _ rfl) (fun K hK => ?_) ?_
              · go_simp
                obtain ⟨c7, hc⟩ : ∃ c7, c7 = c6.alloc (.cells #[.slice a ts.length cap, .slice sa ss.length scap, .slice ja js.length jcap, .slice (some ⟨gc, 0, none⟩) 3 cc, .int .i64 0, .pointer (some ⟨R, 0, none⟩), .slice none 0 0, .slice none 0 0, .slice (some ⟨gd, 0, none⟩) js.length js.length, .slice (some ⟨gr, 0, none⟩) 120 cr, .slice fa js.length fc] 79) := ⟨_, rfl⟩
                rw [← hc]
                obtain ⟨B, hB⟩ : ∃ B, B = c6.heap.size := ⟨_, rfl⟩
                have h := H6.out.addB 79 #[.slice a ts.length cap, .slice sa ss.length scap, .slice ja js.length jcap, .slice (some ⟨gc, 0, none⟩) 3 cc, .int .i64 0, .pointer (some ⟨R, 0, none⟩), .slice none 0 0, .slice none 0 0, .slice (some ⟨gd, 0, none⟩) js.length js.length, .slice (some ⟨gr, 0, none⟩) 120 cr, .slice fa js.length fc] (RX.F ⟨a, cap, sa, scap, ja, jcap, gc, cc, gd, gr, cr, fa, fc, R, c, B⟩ ts.length ss.length js.length 0 (.slice none 0 0) (.slice none 0 0)) (by simp) (fun k hk => cells11 ⟨a, cap, sa, scap, ja, jcap, gc, cc, gd, gr, cr, fa, fc, R, c, B⟩ _ _ _ k hk)
                rw [← hc] at h
                rw [← hB] at h ⊢
                have H7 := Lib.hid h
                clear h hc hB
                refine hK.out _ _ ?_ (fun hHeld2 => ?_)
                · (try dsimp only)
                  (all_goals trivial)
                clear hK K hHeld
                have hHeld := hHeld2
                clear hHeld2
                (try simp only [Act.put, List.setIfInBounds_toArray, List.set_cons_zero, List.set_cons_succ])
                refine wpAnyH_take (i := 20) (v := ?_) (toArr_get _ 20 _ rfl) (by kernel_rfl) (by kernel_rfl) (by kernel_rfl) (fun _ _ _ h => h) (Or.inl ⟨by rfl, ?_⟩) (by assumption) ?_
                rotate_left
                · (intro w hSw; (try dsimp only at hSw); go_simp; (try with_reducible rfl))
                (try simp only [Act.put, List.setIfInBounds_toArray, List.set_cons_zero, List.set_cons_succ])
                refine wpAnyH_done (by kernel_rfl) ?_ _
                go_wp2
                go_ret
                exact ⟨⟨a, cap, sa, scap, ja, jcap, gc, cc, gd, gr, cr, fa, fc, R, c, B⟩, rfl, rfl, rfl, rfl, RS.make (X := ⟨a, cap, sa, scap, ja, jcap, gc, cc, gd, gr, cr, fa, fc, R, c, B⟩) 6 0 5 2 4 1 3 H7.out (by decide) (by decide) rfl rfl rfl rfl rfl rfl rfl hcR⟩
              exact AllReadyH.nil
            exact AllReadyH.nil
          exact AllReadyH.nil
        refine AllReadyH.cons (toArr_get _ 12 _ rfl) (fun K hK => ?_) ?_
        · go_simp
          obtain ⟨c4, hc⟩ : ∃ c4, c4 = c3.alloc (.cells (madeCells #[.int .i64 0] js.length) 3) := ⟨_, rfl⟩
          rw [← hc]
          have h := H3.out.addN (below_box c3 (.cells (madeCells #[.int .i64 0] js.length) 3)) (made_own c3 js.length (dnF (srpP ts ss js).gen 0) (by unfold maxLen; omega) (fun k _ => by unfold dnF; rw [show (srpP ts ss js).gen.left 0 k = (srpP ts ss js).gen.ex k from rfl, Nat.sub_self]; rfl))
          rw [← hc] at h
          obtain ⟨gd, hgd⟩ : ∃ gd, gd = c3.heap.size := ⟨_, rfl⟩
          rw [← hgd] at h ⊢
          have H4 := Lib.hid h
          clear h hc hgd
          refine hK.out _ _ ?_ (fun hHeld2 => ?_)
          · (try dsimp only)
            (all_goals trivial)
          clear hK K hHeld
          have hHeld := hHeld2
          clear hHeld2
          (try simp only [Act.put, List.setIfInBounds_toArray, List.set_cons_zero, List.set_cons_succ])
          refine wpAnyH_ready (rs := [9, 16]) (by kernel_rfl) (by simp) ?_
          refine AllReadyH.cons (toArr_get _ 9 _ rfl) (fun K hK => ?_) ?_
          · go_simp
            obtain ⟨c5, hc⟩ : ∃ c5, c5 = c4.alloc (.cells #[.slice none 0 0, .func (.func 108) #[] #[.pointer (some ⟨c, 0, none⟩)]] 117) := ⟨_, rfl⟩
            rw [← hc]
            have h := H4.out.addB 117 #[.slice none 0 0, .func (.func 108) #[] #[.pointer (some ⟨c, 0, none⟩)]] (FR c) (by simp) (fun k hk => two_cells _ k hk)
            rw [← hc] at h
            obtain ⟨R, hR⟩ : ∃ R, R = c4.heap.size := ⟨_, rfl⟩
            rw [← hR] at h ⊢
            have hcR : c < R := by rw [hR]; exact (H4.out.lt (j := 1) rfl).2
            have H5 := Lib.hid h
            clear h hc hR
            refine hK.out _ _ ?_ (fun hHeld2 => ?_)
            · (try dsimp only)
              (all_goals trivial)
            clear hK K hHeld
            have hHeld := hHeld2
            clear hHeld2
            (try simp only [Act.put, List.setIfInBounds_toArray, List.set_cons_zero, List.set_cons_succ])
            refine wpAnyH_ready (rs := [16]) (by kernel_rfl) (by simp) ?_
            refine AllReadyH.cons (toArr_get _ 16 _ rfl) (fun K hK => ?_) ?_
            · go_simp
              refine (missing_any js.length _ (by omega)).mono ?_
              rintro e c6 ⟨v16, rfl, o16, b16⟩
              obtain ⟨fa, fc, rfl⟩ := own_shape o16
              have H6 := Lib.hid (H5.out.addN b16 (o16.congr (f' := (srpP ts ss js).gen.fin 0) (fun k _ => rfl)))
              clear o16 b16
              go_wp2_with fail
              refine hK.out _ _ ?_ (fun hHeld2 => ?_)
              · (try dsimp only)
                (all_goals trivial)
              clear hK K hHeld
              have hHeld := hHeld2
              clear hHeld2
              (try simp only [Act.put, List.setIfInBounds_toArray, List.set_cons_zero, List.set_cons_succ])
              refine wpAnyH_take (i := 17) (v := ?_) (toArr_get _ 17 _ rfl) (by kernel_rfl) (by kernel_rfl) (by kernel_rfl) (fun _ _ _ h => h) (Or.inl ⟨by rfl, ?_⟩) (by assumption) ?_
              rotate_left
              · (intro w hSw; (try dsimp only at hSw); go_simp; (try with_reducible rfl))
              (try simp only [Act.put, List.setIfInBounds_toArray, List.set_cons_zero, List.set_cons_succ])
              refine wpAnyH_take (i := 18) (v := ?_) (toArr_get _ 18 _ rfl) (by kernel_rfl) (by kernel_rfl) (by kernel_rfl) (fun _ _ _ h => h) (Or.inl ⟨by rfl, ?_⟩) (by assumption) ?_
              rotate_left
              · (intro w hSw; (try dsimp only at hSw); go_simp; (try with_reducible rfl))
              (try simp only [Act.put, List.setIfInBounds_toArray, List.set_cons_zero, List.set_cons_succ])
              refine wpAnyH_ready (rs := [19]) (by kernel_rfl) (by simp) ?_
              refine AllReadyH.cons (toArr_get _ 19 _ rfl) (fun K hK => ?_) ?_
              · go_simp
                obtain ⟨c7, hc⟩ : ∃ c7, c7 = c6.alloc (.cells #[.slice a ts.length cap, .slice sa ss.length scap, .slice ja js.length jcap, .slice (some ⟨gc, 0, none⟩) 3 cc, .int .i64 0, .pointer (some ⟨R, 0, none⟩), .slice none 0 0, .slice none 0 0, .slice (some ⟨gd, 0, none⟩) js.length js.length, .slice (some ⟨gr, 0, none⟩) 120 cr, .slice fa js.length fc] 79) := ⟨_, rfl⟩
                rw [← hc]
                obtain ⟨B, hB⟩ : ∃ B, B = c6.heap.size := ⟨_, rfl⟩
                have h := H6.out.addB 79 #[.slice a ts.length cap, .slice sa ss.length scap, .slice ja js.length jcap, .slice (some ⟨gc, 0, none⟩) 3 cc, .int .i64 0, .pointer (some ⟨R, 0, none⟩), .slice none 0 0, .slice none 0 0, .slice (some ⟨gd, 0, none⟩) js.length js.length, .slice (some ⟨gr, 0, none⟩) 120 cr, .slice fa js.length fc] (RX.F ⟨a, cap, sa, scap, ja, jcap, gc, cc, gd, gr, cr, fa, fc, R, c, B⟩ ts.length ss.length js.length 0 (.slice none 0 0) (.slice none 0 0)) (by simp) (fun k hk => cells11 ⟨a, cap, sa, scap, ja, jcap, gc, cc, gd, gr, cr, fa, fc, R, c, B⟩ _ _ _ k hk)
                rw [← hc] at h
                rw [← hB] at h ⊢
                have H7 := Lib.hid h
                clear h hc hB
                refine hK.out _ _ ?_ (fun hHeld2 => ?_)
                · (try dsimp only)
                  (all_goals trivial)
                clear hK K hHeld
                have hHeld := hHeld2
                clear hHeld2
                (try simp only [Act.put, List.setIfInBounds_toArray, List.set_cons_zero, List.set_cons_succ])
                refine wpAnyH_take (i := 20) (v := ?_) (toArr_get _ 20 _ rfl) (by kernel_rfl) (by kernel_rfl) (by kernel_rfl) (fun _ _ _ h => h) (Or.inl ⟨by rfl, ?_⟩) (by assumption) ?_
                rotate_left
                · (intro w hSw; (try dsimp only at hSw); go_simp; (try with_reducible rfl))
                (try simp only [Act.put, List.setIfInBounds_toArray, List.set_cons_zero, List.set_cons_succ])
                refine wpAnyH_done (by kernel_rfl) ?_ _
                go_wp2
                go_ret
                exact ⟨⟨a, cap, sa, scap, ja, jcap, gc, cc, gd, gr, cr, fa, fc, R, c, B⟩, rfl, rfl, rfl, rfl, RS.make (X := ⟨a, cap, sa, scap, ja, jcap, gc, cc, gd, gr, cr, fa, fc, R, c, B⟩) 6 0 3 2 5 1 4 H7.out (by decide) (by decide) rfl rfl rfl rfl rfl rfl rfl hcR⟩
              exact AllReadyH.nil
            exact AllReadyH.nil
          refine AllReadyH.cons (toArr_get _ 16 _ rfl) (fun K hK => ?_) ?_
          · go_simp
            refine (missing_any js.length _ (by omega)).mono ?_
            rintro e c5 ⟨v16, rfl, o16, b16⟩
            obtain ⟨fa, fc, rfl⟩ := own_shape o16
            have H5 := Lib.hid (H4.out.addN b16 (o16.congr (f' := (srpP ts ss js).gen.fin 0) (fun k _ => rfl)))
            clear o16 b16
            go_wp2_with fail
            refine hK.out _ _ ?_ (fun hHeld2 => ?_)
            · (try dsimp only)
              (all_goals trivial)
            clear hK K hHeld
            have hHeld := hHeld2
            clear hHeld2
            (try simp only [Act.put, List.setIfInBounds_toArray, List.set_cons_zero, List.set_cons_succ])
            refine wpAnyH_take (i := 17) (v := ?_) (toArr_get _ 17 _ rfl) (by kernel_rfl) (by kernel_rfl) (by kernel_rfl) (fun _ _ _ h => h) (Or.inl ⟨by rfl, ?_⟩) (by assumption) ?_
            rotate_left
            · (intro w hSw; (try dsimp only at hSw); go_simp; (try with_reducible rfl))
            (try simp only [Act.put, List.setIfInBounds_toArray, List.set_cons_zero, List.set_cons_succ])
            refine wpAnyH_ready (rs := [9]) (by kernel_rfl) (by simp) ?_
            refine AllReadyH.cons (toArr_get _ 9 _ rfl) (fun K hK => ?_) ?_
            · go_simp
              obtain ⟨c6, hc⟩ : ∃ c6, c6 = c5.alloc (.cells #[.slice none 0 0, .func (.func 108) #[] #[.pointer (some ⟨c, 0, none⟩)]] 117) := ⟨_, rfl⟩
              rw [← hc]
              have h := H5.out.addB 117 #[.slice none 0 0, .func (.func 108) #[] #[.pointer (some ⟨c, 0, none⟩)]] (FR c) (by simp) (fun k hk => two_cells _ k hk)
              rw [← hc] at h
              obtain ⟨R, hR⟩ : ∃ R, R = c5.heap.size := ⟨_, rfl⟩
              rw [← hR] at h ⊢
              have hcR : c < R := by rw [hR]; exact (H5.out.lt (j := 1) rfl).2
              have H6 := Lib.hid h
              clear h hc hR
              refine hK.out _ _ ?_ (fun hHeld2 => ?_)
              · (try dsimp only)
                (all_goals trivial)
              clear hK K hHeld
              have hHeld := hHeld2
              clear hHeld2
              (try simp only [Act.put, List.setIfInBounds_toArray, List.set_cons_zero, List.set_cons_succ])
              refine wpAnyH_take (i := 18) (v := ?_) (toArr_get _ 18 _ rfl) (by kernel_rfl) (by kernel_rfl) (by kernel_rfl) (fun _ _ _ h => h) (Or.inl ⟨by rfl, ?_⟩) (by assumption) ?_
              rotate_left
              · (intro w hSw; (try dsimp only at hSw); go_simp; (try with_reducible rfl))
              (try simp only [Act.put, List.setIfInBounds_toArray, List.set_cons_zero, List.set_cons_succ])
              refine wpAnyH_ready (rs := [19]) (by kernel_rfl) (by simp) ?_
              refine AllReadyH.cons (toArr_get _ 19 _ rfl) (fun K hK => ?_) ?_
              · go_simp
                obtain ⟨c7, hc⟩ : ∃ c7, c7 = c6.alloc (.cells #[.slice a ts.length cap, .slice sa ss.length scap, .slice ja js.length jcap, .slice (some ⟨gc, 0, none⟩) 3 cc, .int .i64 0, .pointer (some ⟨R, 0, none⟩), .slice none 0 0, .slice none 0 0, .slice (some ⟨gd, 0, none⟩) js.length js.length, .slice (some ⟨gr, 0, none⟩) 120 cr, .slice fa js.length fc] 79) := ⟨_, rfl⟩
                rw [← hc]
                obtain ⟨B, hB⟩ : ∃ B, B = c6.heap.size := ⟨_, rfl⟩
                have h := H6.out.addB 79 #[.slice a ts.length cap, .slice sa ss.length scap, .slice ja js.length jcap, .slice (some ⟨gc, 0, none⟩) 3 cc, .int .i64 0, .pointer (some ⟨R, 0, none⟩), .slice none 0 0, .slice none 0 0, .slice (some ⟨gd, 0, none⟩) js.length js.length, .slice (some ⟨gr, 0, none⟩) 120 cr, .slice fa js.length fc] (RX.F ⟨a, cap, sa, scap, ja, jcap, gc, cc, gd, gr, cr, fa, fc, R, c, B⟩ ts.length ss.length js.length 0 (.slice none 0 0) (.slice none 0 0)) (by simp) (fun k hk => cells11 ⟨a, cap, sa, scap, ja, jcap, gc, cc, gd, gr, cr, fa, fc, R, c, B⟩ _ _ _ k hk)
                rw [← hc] at h
                rw [← hB] at h ⊢
                have H7 := Lib.hid h
                clear h hc hB
                refine hK.out _ _ ?_ (fun hHeld2 => ?_)
                · (try dsimp only)
                  (all_goals trivial)
                clear hK K hHeld
                have hHeld := hHeld2
                clear hHeld2
                (try simp only [Act.put, List.setIfInBounds_toArray, List.set_cons_zero, List.set_cons_succ])
                refine wpAnyH_take (i := 20) (v := ?_) (toArr_get _ 20 _ rfl) (by kernel_rfl) (by kernel_rfl) (by kernel_rfl) (fun _ _ _ h => h) (Or.inl ⟨by rfl, ?_⟩) (by assumption) ?_
                rotate_left
                · (intro w hSw; (try dsimp only at hSw); go_simp; (try with_reducible rfl))
                (try simp only [Act.put, List.setIfInBounds_toArray, List.set_cons_zero, List.set_cons_succ])
                refine wpAnyH_done (by kernel_rfl) ?_ _
                go_wp2
                go_ret
                exact ⟨⟨a, cap, sa, scap, ja, jcap, gc, cc, gd, gr, cr, fa, fc, R, c, B⟩, rfl, rfl, rfl, rfl, RS.make (X := ⟨a, cap, sa, scap, ja, jcap, gc, cc, gd, gr, cr, fa, fc, R, c, B⟩) 6 0 3 2 4 1 5 H7.out (by decide) (by decide) rfl rfl rfl rfl rfl rfl rfl hcR⟩
              exact AllReadyH.nil
            exact AllReadyH.nil
          exact AllReadyH.nil
        refine AllReadyH.cons (toArr_get _ 16 _ rfl) (fun K hK => ?_) ?_
        · go_simp
          refine (missing_any js.length _ (by omega)).mono ?_
          rintro e c4 ⟨v16, rfl, o16, b16⟩
          obtain ⟨fa, fc, rfl⟩ := own_shape o16
          have H4 := Lib.hid (H3.out.addN b16 (o16.congr (f' := (srpP ts ss js).gen.fin 0) (fun k _ => rfl)))
          clear o16 b16
          go_wp2_with fail
          refine hK.out _ _ ?_ (fun hHeld2 => ?_)
          · (try dsimp only)
            (all_goals trivial)
          clear hK K hHeld
          have hHeld := hHeld2
          clear hHeld2
          (try simp only [Act.put, List.setIfInBounds_toArray, List.set_cons_zero, List.set_cons_succ])
          refine wpAnyH_take (i := 17) (v := ?_) (toArr_get _ 17 _ rfl) (by kernel_rfl) (by kernel_rfl) (by kernel_rfl) (fun _ _ _ h => h) (Or.inl ⟨by rfl, ?_⟩) (by assumption) ?_
          rotate_left
          · (intro w hSw; (try dsimp only at hSw); go_simp; (try with_reducible rfl))
          (try simp only [Act.put, List.setIfInBounds_toArray, List.set_cons_zero, List.set_cons_succ])
          refine wpAnyH_ready (rs := [9, 12]) (by kernel_rfl) (by simp) ?_
          refine AllReadyH.cons (toArr_get _ 9 _ rfl) (fun K hK => ?_) ?_
          · go_simp
            obtain ⟨c5, hc⟩ : ∃ c5, c5 = c4.alloc (.cells #[.slice none 0 0, .func (.func 108) #[] #[.pointer (some ⟨c, 0, none⟩)]] 117) := ⟨_, rfl⟩
            rw [← hc]
            have h := H4.out.addB 117 #[.slice none 0 0, .func (.func 108) #[] #[.pointer (some ⟨c, 0, none⟩)]] (FR c) (by simp) (fun k hk => two_cells _ k hk)
            rw [← hc] at h
            obtain ⟨R, hR⟩ : ∃ R, R = c4.heap.size := ⟨_, rfl⟩
            rw [← hR] at h ⊢
            have hcR : c < R := by rw [hR]; exact (H4.out.lt (j := 1) rfl).2
            have H5 := Lib.hid h
            clear h hc hR
            refine hK.out _ _ ?_ (fun hHeld2 => ?_)
            · (try dsimp only)
              (all_goals trivial)
            clear hK K hHeld
            have hHeld := hHeld2
            clear hHeld2
            (try simp only [Act.put, List.setIfInBounds_toArray, List.set_cons_zero, List.set_cons_succ])
            refine wpAnyH_ready (rs := [12]) (by kernel_rfl) (by simp) ?_
            refine AllReadyH.cons (toArr_get _ 12 _ rfl) (fun K hK => ?_) ?_
            · go_simp
              obtain ⟨c6, hc⟩ : ∃ c6, c6 = c5.alloc (.cells (madeCells #[.int .i64 0] js.length) 3) := ⟨_, rfl⟩
              rw [← hc]
              have h := H5.out.addN (below_box c5 (.cells (madeCells #[.int .i64 0] js.length) 3)) (made_own c5 js.length (dnF (srpP ts ss js).gen 0) (by unfold maxLen; omega) (fun k _ => by unfold dnF; rw [show (srpP ts ss js).gen.left 0 k = (srpP ts ss js).gen.ex k from rfl, Nat.sub_self]; rfl))
              rw [← hc] at h
              obtain ⟨gd, hgd⟩ : ∃ gd, gd = c5.heap.size := ⟨_, rfl⟩
              rw [← hgd] at h ⊢
              have H6 := Lib.hid h
              clear h hc hgd
              refine hK.out _ _ ?_ (fun hHeld2 => ?_)
              · (try dsimp only)
                (all_goals trivial)
              clear hK K hHeld
              have hHeld := hHeld2
              clear hHeld2
              (try simp only [Act.put, List.setIfInBounds_toArray, List.set_cons_zero, List.set_cons_succ])
              refine wpAnyH_take (i := 18) (v := ?_) (toArr_get _ 18 _ rfl) (by kernel_rfl) (by kernel_rfl) (by kernel_rfl) (fun _ _ _ h => h) (Or.inl ⟨by rfl, ?_⟩) (by assumption) ?_
              rotate_left
              · (intro w hSw; (try dsimp only at hSw); go_simp; (try with_reducible rfl))
              (try simp only [Act.put, List.setIfInBounds_toArray, List.set_cons_zero, List.set_cons_succ])
              refine wpAnyH_ready (rs := [19]) (by kernel_rfl) (by simp) ?_
              refine AllReadyH.cons (toArr_get _ 19 _ rfl) (fun K hK => ?_) ?_
              · go_simp
                obtain ⟨c7, hc⟩ : ∃ c7, c7 = c6.alloc (.cells #[.slice a ts.length cap, .slice sa ss.length scap, .slice ja js.length jcap, .slice (some ⟨gc, 0, none⟩) 3 cc, .int .i64 0, .pointer (some ⟨R, 0, none⟩), .slice none 0 0, .slice none 0 0, .slice (some ⟨gd, 0, none⟩) js.length js.length, .slice (some ⟨gr, 0, none⟩) 120 cr, .slice fa js.length fc] 79) := ⟨_, rfl⟩
                rw [← hc]
                obtain ⟨B, hB⟩ : ∃ B, B = c6.heap.size := ⟨_, rfl⟩
                have h := H6.out.addB 79 #[.slice a ts.length cap, .slice sa ss.length scap, .slice ja js.length jcap, .slice (some ⟨gc, 0, none⟩) 3 cc, .int .i64 0, .pointer (some ⟨R, 0, none⟩), .slice none 0 0, .slice none 0 0, .slice (some ⟨gd, 0, none⟩) js.length js.length, .slice (some ⟨gr, 0, none⟩) 120 cr, .slice fa js.length fc] (RX.F ⟨a, cap, sa, scap, ja, jcap, gc, cc, gd, gr, cr, fa, fc, R, c, B⟩ ts.length ss.length js.length 0 (.slice none 0 0) (.slice none 0 0)) (by simp) (fun k hk => cells11 ⟨a, cap, sa, scap, ja, jcap, gc, cc, gd, gr, cr, fa, fc, R, c, B⟩ _ _ _ k hk)
                rw [← hc] at h
                rw [← hB] at h ⊢
                have H7 := Lib.hid h
                clear h hc hB
                refine hK.out _ _ ?_ (fun hHeld2 => ?_)
                · (try dsimp only)
                  (all_goals trivial)
                clear hK K hHeld
                have hHeld := hHeld2
                clear hHeld2
                (try simp only [Act.put, List.setIfInBounds_toArray, List.set_cons_zero, List.set_cons_succ])
                refine wpAnyH_take (i := 20) (v := ?_) (toArr_get _ 20 _ rfl) (by kernel_rfl) (by kernel_rfl) (by kernel_rfl) (fun _ _ _ h => h) (Or.inl ⟨by rfl, ?_⟩) (by assumption) ?_
                rotate_left
                · (intro w hSw; (try dsimp only at hSw); go_simp; (try with_reducible rfl))
                (try simp only [Act.put, List.setIfInBounds_toArray, List.set_cons_zero, List.set_cons_succ])
                refine wpAnyH_done (by kernel_rfl) ?_ _
                go_wp2
                go_ret
                exact ⟨⟨a, cap, sa, scap, ja, jcap, gc, cc, gd, gr, cr, fa, fc, R, c, B⟩, rfl, rfl, rfl, rfl, RS.make (X := ⟨a, cap, sa, scap, ja, jcap, gc, cc, gd, gr, cr, fa, fc, R, c, B⟩) 6 0 5 2 3 1 4 H7.out (by decide) (by decide) rfl rfl rfl rfl rfl rfl rfl hcR⟩
              exact AllReadyH.nil
            exact AllReadyH.nil
          refine AllReadyH.cons (toArr_get _ 12 _ rfl) (fun K hK => ?_) ?_
          · go_simp
            obtain ⟨c5, hc⟩ : ∃ c5, c5 = c4.alloc (.cells (madeCells #[.int .i64 0] js.length) 3) := ⟨_, rfl⟩
            rw [← hc]
            have h := H4.out.addN (below_box c4 (.cells (madeCells #[.int .i64 0] js.length) 3)) (made_own c4 js.length (dnF (srpP ts ss js).gen 0) (by unfold maxLen; omega) (fun k _ => by unfold dnF; rw [show (srpP ts ss js).gen.left 0 k = (srpP ts ss js).gen.ex k from rfl, Nat.sub_self]; rfl))
            rw [← hc] at h
            obtain ⟨gd, hgd⟩ : ∃ gd, gd = c4.heap.size := ⟨_, rfl⟩
            rw [← hgd] at h ⊢
            have H5 := Lib.hid h
            clear h hc hgd
            refine hK.out _ _ ?_ (fun hHeld2 => ?_)
            · (try dsimp only)
              (all_goals trivial)
            clear hK K hHeld
            have hHeld := hHeld2
            clear hHeld2
            (try simp only [Act.put, List.setIfInBounds_toArray, List.set_cons_zero, List.set_cons_succ])
            refine wpAnyH_ready (rs := [9]) (by kernel_rfl) (by simp) ?_
            refine AllReadyH.cons (toArr_get _ 9 _ rfl) (fun K hK => ?_) ?_
            · go_simp
              obtain ⟨c6, hc⟩ : ∃ c6, c6 = c5.alloc (.cells #[.slice none 0 0, .func (.func 108) #[] #[.pointer (some ⟨c, 0, none⟩)]] 117) := ⟨_, rfl⟩
              rw [← hc]
              have h := H5.out.addB 117 #[.slice none 0 0, .func (.func 108) #[] #[.pointer (some ⟨c, 0, none⟩)]] (FR c) (by simp) (fun k hk => two_cells _ k hk)
              rw [← hc] at h
              obtain ⟨R, hR⟩ : ∃ R, R = c5.heap.size := ⟨_, rfl⟩
              rw [← hR] at h ⊢
              have hcR : c < R := by rw [hR]; exact (H5.out.lt (j := 1) rfl).2
              have H6 := Lib.hid h
              clear h hc hR
              refine hK.out _ _ ?_ (fun hHeld2 => ?_)
              · (try dsimp only)
                (all_goals trivial)
              clear hK K hHeld
              have hHeld := hHeld2
              clear hHeld2
              (try simp only [Act.put, List.setIfInBounds_toArray, List.set_cons_zero, List.set_cons_succ])
              refine wpAnyH_take (i := 18) (v := ?_) (toArr_get _ 18 _ rfl) (by kernel_rfl) (by kernel_rfl) (by kernel_rfl) (fun _ _ _ h => h) (Or.inl ⟨by rfl, ?_⟩) (by assumption) ?_
              rotate_left
              · (intro w hSw; (try dsimp only at hSw); go_simp; (try with_reducible rfl))
              (try simp only [Act.put, List.setIfInBounds_toArray, List.set_cons_zero, List.set_cons_succ])
              refine wpAnyH_ready (rs := [19]) (by kernel_rfl) (by simp) ?_
              refine AllReadyH.cons (toArr_get _ 19 _ rfl) (fun K hK => ?_) ?_
              · go_simp
                obtain ⟨c7, hc⟩ : ∃ c7, c7 = c6.alloc (.cells #[.slice a ts.length cap, .slice sa ss.length scap, .slice ja js.length jcap, .slice (some ⟨gc, 0, none⟩) 3 cc, .int .i64 0, .pointer (some ⟨R, 0, none⟩), .slice none 0 0, .slice none 0 0, .slice (some ⟨gd, 0, none⟩) js.length js.length, .slice (some ⟨gr, 0, none⟩) 120 cr, .slice fa js.length fc] 79) := ⟨_, rfl⟩
                rw [← hc]
                obtain ⟨B, hB⟩ : ∃ B, B = c6.heap.size := ⟨_, rfl⟩
                have h := H6.out.addB 79 #[.slice a ts.length cap, .slice sa ss.length scap, .slice ja js.length jcap, .slice (some ⟨gc, 0, none⟩) 3 cc, .int .i64 0, .pointer (some ⟨R, 0, none⟩), .slice none 0 0, .slice none 0 0, .slice (some ⟨gd, 0, none⟩) js.length js.length, .slice (some ⟨gr, 0, none⟩) 120 cr, .slice fa js.length fc] (RX.F ⟨a, cap, sa, scap, ja, jcap, gc, cc, gd, gr, cr, fa, fc, R, c, B⟩ ts.length ss.length js.length 0 (.slice none 0 0) (.slice none 0 0)) (by simp) (fun k hk => cells11 ⟨a, cap, sa, scap, ja, jcap, gc, cc, gd, gr, cr, fa, fc, R, c, B⟩ _ _ _ k hk)
                rw [← hc] at h
                rw [← hB] at h ⊢
                have H7 := Lib.hid h
                clear h hc hB
                refine hK.out _ _ ?_ (fun hHeld2 => ?_)
                · (try dsimp only)
                  (all_goals trivial)
                clear hK K hHeld
                have hHeld := hHeld2
                clear hHeld2
                (try simp only [Act.put, List.setIfInBounds_toArray, List.set_cons_zero, List.set_cons_succ])
                refine wpAnyH_take (i := 20) (v := ?_) (toArr_get _ 20 _ rfl) (by kernel_rfl) (by kernel_rfl) (by kernel_rfl) (fun _ _ _ h => h) (Or.inl ⟨by rfl, ?_⟩) (by assumption) ?_
                rotate_left
                · (intro w hSw; (try dsimp only at hSw); go_simp; (try with_reducible rfl))
                (try simp only [Act.put, List.setIfInBounds_toArray, List.set_cons_zero, List.set_cons_succ])
                refine wpAnyH_done (by kernel_rfl) ?_ _
                go_wp2
                go_ret
                exact ⟨⟨a, cap, sa, scap, ja, jcap, gc, cc, gd, gr, cr, fa, fc, R, c, B⟩, rfl, rfl, rfl, rfl, RS.make (X := ⟨a, cap, sa, scap, ja, jcap, gc, cc, gd, gr, cr, fa, fc, R, c, B⟩) 6 0 4 2 3 1 5 H7.out (by decide) (by decide) rfl rfl rfl rfl rfl rfl rfl hcR⟩
              exact AllReadyH.nil
            exact AllReadyH.nil
          exact AllReadyH.nil
        exact AllReadyH.nil
      exact AllReadyH.nil
    refine AllReadyH.cons (toArr_get _ 12 _ rfl) (fun K hK => ?_) ?_
    · go_simp
      obtain ⟨c2, hc⟩ : ∃ c2, c2 = c1.alloc (.cells (madeCells #[.int .i64 0] js.length) 3) := ⟨_, rfl⟩
      rw [← hc]
      have h := H1.out.addN (below_box c1 (.cells (madeCells #[.int .i64 0] js.length) 3)) (made_own c1 js.length (dnF (srpP ts ss js).gen 0) (by unfold maxLen; omega) (fun k _ => by unfold dnF; rw [show (srpP ts ss js).gen.left 0 k = (srpP ts ss js).gen.ex k from rfl, Nat.sub_self]; rfl))
      rw [← hc] at h
      obtain ⟨gd, hgd⟩ : ∃ gd, gd = c1.heap.size := ⟨_, rfl⟩
      rw [← hgd] at h ⊢
      have H2 := Lib.hid h
      clear h hc hgd
      refine hK.out _ _ ?_ (fun hHeld2 => ?_)
      · (try dsimp only)
        (all_goals trivial)
      clear hK K hHeld
      have hHeld := hHeld2
      clear hHeld2
      (try simp only [Act.put, List.setIfInBounds_toArray, List.set_cons_zero, List.set_cons_succ])
      refine wpAnyH_ready (rs := [7]) (by kernel_rfl) (by simp) ?_
      refine AllReadyH.cons (toArr_get _ 7 _ rfl) (fun K hK => ?_) ?_
      · go_simp
        refine (earlierNew ja jcap js _).mono ?_
        rintro e c3 ⟨rfl, hc⟩
        have h := H2.out.addB 25 #[.slice ja js.length jcap] (fun _ => .slice ja js.length jcap) (by simp) (fun k hk => one_cell _ k hk)
        rw [← hc] at h
        obtain ⟨c, hcc⟩ : ∃ c, c = c2.heap.size := ⟨_, rfl⟩
        rw [← hcc] at h ⊢
        have H3 := Lib.hid h
        clear h hc hcc
        go_wp2_with fail
        refine hK.out _ _ ?_ (fun hHeld2 => ?_)
        · (try dsimp only)
          (all_goals trivial)
        clear hK K hHeld
        have hHeld := hHeld2
        clear hHeld2
        (try simp only [Act.put, List.setIfInBounds_toArray, List.set_cons_zero, List.set_cons_succ])
        refine wpAnyH_take (i := 8) (v := ?_) (toArr_get _ 8 _ rfl) (by kernel_rfl) (by kernel_rfl) (by kernel_rfl) (fun _ _ _ h => h) (Or.inl ⟨by rfl, ?_⟩) (by assumption) ?_
        rotate_left
        · (intro w hSw; (try dsimp only at hSw); go_simp; (try with_reducible rfl))
        (try simp only [Act.put, List.setIfInBounds_toArray, List.set_cons_zero, List.set_cons_succ])
        refine wpAnyH_ready (rs := [9, 13]) (by kernel_rfl) (by simp) ?_
        refine AllReadyH.cons (toArr_get _ 9 _ rfl) (fun K hK => ?_) ?_
        · go_simp
          obtain ⟨c4, hc⟩ : ∃ c4, c4 = c3.alloc (.cells #[.slice none 0 0, .func (.func 108) #[] #[.pointer (some ⟨c, 0, none⟩)]] 117) := ⟨_, rfl⟩
          rw [← hc]
          have h := H3.out.addB 117 #[.slice none 0 0, .func (.func 108) #[] #[.pointer (some ⟨c, 0, none⟩)]] (FR c) (by simp) (fun k hk => two_cells _ k hk)
          rw [← hc] at h
          obtain ⟨R, hR⟩ : ∃ R, R = c3.heap.size := ⟨_, rfl⟩
          rw [← hR] at h ⊢
          have hcR : c < R := by rw [hR]; exact (H3.out.lt (j := 2) rfl).2
          have H4 := Lib.hid h
          clear h hc hR
          refine hK.out _ _ ?_ (fun hHeld2 => ?_)
          · (try dsimp only)
            (all_goals trivial)
          clear hK K hHeld
          have hHeld := hHeld2
          clear hHeld2
          (try simp only [Act.put, List.setIfInBounds_toArray, List.set_cons_zero, List.set_cons_succ])
          refine wpAnyH_ready (rs := [13]) (by kernel_rfl) (by simp) ?_
          refine AllReadyH.cons (toArr_get _ 13 _ rfl) (fun K hK => ?_) ?_
          · go_simp
            refine (missing120 _).mono ?_
            rintro e c5 ⟨v13, rfl, o13, b13⟩
            obtain ⟨gra, cr, rfl⟩ := own_shape o13
            obtain ⟨gr, rfl⟩ := own_some' o13 (by omega)
            have H5 := Lib.hid (H4.out.addN b13 (o13.congr (f' := rnF ts ss js 0) (fun k _ => by unfold rnF; rw [if_neg (Nat.not_lt_zero _)])))
            clear o13 b13
            go_wp2_with fail
            refine hK.out _ _ ?_ (fun hHeld2 => ?_)
            · (try dsimp only)
              (all_goals trivial)
            clear hK K hHeld
            have hHeld := hHeld2
            clear hHeld2
            (try simp only [Act.put, List.setIfInBounds_toArray, List.set_cons_zero, List.set_cons_succ])
            refine wpAnyH_ready (rs := [16]) (by kernel_rfl) (by simp) ?_
            refine AllReadyH.cons (toArr_get _ 16 _ rfl) (fun K hK => ?_) ?_
            · go_simp
              refine (missing_any js.length _ (by omega)).mono ?_
              rintro e c6 ⟨v16, rfl, o16, b16⟩
              obtain ⟨fa, fc, rfl⟩ := own_shape o16
              have H6 := Lib.hid (H5.out.addN b16 (o16.congr (f' := (srpP ts ss js).gen.fin 0) (fun k _ => rfl)))
              clear o16 b16
              go_wp2_with fail
              refine hK.out _ _ ?_ (fun hHeld2 => ?_)
              · (try dsimp only)
                (all_goals trivial)
              clear hK K hHeld
              have hHeld := hHeld2
              clear hHeld2
              (try simp only [Act.put, List.setIfInBounds_toArray, List.set_cons_zero, List.set_cons_succ])
              refine wpAnyH_take (i := 17) (v := ?_) (toArr_get _ 17 _ rfl) (by kernel_rfl) (by kernel_rfl) (by kernel_rfl) (fun _ _ _ h => h) (Or.inl ⟨by rfl, ?_⟩) (by assumption) ?_
              rotate_left
              · (intro w hSw; (try dsimp only at hSw); go_simp; (try with_reducible rfl))
              (try simp only [Act.put, List.setIfInBounds_toArray, List.set_cons_zero, List.set_cons_succ])
              refine wpAnyH_take (i := 18) (v := ?_) (toArr_get _ 18 _ rfl) (by kernel_rfl) (by kernel_rfl) (by kernel_rfl) (fun _ _ _ h => h) (Or.inl ⟨by rfl, ?_⟩) (by assumption) ?_
              rotate_left
              · (intro w hSw; (try dsimp only at hSw); go_simp; (try with_reducible rfl))
              (try simp only [Act.put, List.setIfInBounds_toArray, List.set_cons_zero, List.set_cons_succ])
              refine wpAnyH_ready (rs := [19]) (by kernel_rfl) (by simp) ?_
              refine AllReadyH.cons (toArr_get _ 19 _ rfl) (fun K hK => ?_) ?_
              · go_simp
                obtain ⟨c7, hc⟩ : ∃ c7, c7 = c6.alloc (.cells #[.slice a ts.length cap, .slice sa ss.length scap, .slice ja js.length jcap, .slice (some ⟨gc, 0, none⟩) 3 cc, .int .i64 0, .pointer (some ⟨R, 0, none⟩), .slice none 0 0, .slice none 0 0, .slice (some ⟨gd, 0, none⟩) js.length js.length, .slice (some ⟨gr, 0, none⟩) 120 cr, .slice fa js.length fc] 79) := ⟨_, rfl⟩
                rw [← hc]
                obtain ⟨B, hB⟩ : ∃ B, B = c6.heap.size := ⟨_, rfl⟩
                have h := H6.out.addB 79 #[.slice a ts.length cap, .slice sa ss.length scap, .slice ja js.length jcap, .slice (some ⟨gc, 0, none⟩) 3 cc, .int .i64 0, .pointer (some ⟨R, 0, none⟩), .slice none 0 0, .slice none 0 0, .slice (some ⟨gd, 0, none⟩) js.length js.length, .slice (some ⟨gr, 0, none⟩) 120 cr, .slice fa js.length fc] (RX.F ⟨a, cap, sa, scap, ja, jcap, gc, cc, gd, gr, cr, fa, fc, R, c, B⟩ ts.length ss.length js.length 0 (.slice none 0 0) (.slice none 0 0)) (by simp) (fun k hk => cells11 ⟨a, cap, sa, scap, ja, jcap, gc, cc, gd, gr, cr, fa, fc, R, c, B⟩ _ _ _ k hk)
                rw [← hc] at h
                rw [← hB] at h ⊢
                have H7 := Lib.hid h
                clear h hc hB
                refine hK.out _ _ ?_ (fun hHeld2 => ?_)
                · (try dsimp only)
                  (all_goals trivial)
                clear hK K hHeld
                have hHeld := hHeld2
                clear hHeld2
                (try simp only [Act.put, List.setIfInBounds_toArray, List.set_cons_zero, List.set_cons_succ])
                refine wpAnyH_take (i := 20) (v := ?_) (toArr_get _ 20 _ rfl) (by kernel_rfl) (by kernel_rfl) (by kernel_rfl) (fun _ _ _ h => h) (Or.inl ⟨by rfl, ?_⟩) (by assumption) ?_
                rotate_left
                · (intro w hSw; (try dsimp only at hSw); go_simp; (try with_reducible rfl))
                (try simp only [Act.put, List.setIfInBounds_toArray, List.set_cons_zero, List.set_cons_succ])
                refine wpAnyH_done (by kernel_rfl) ?_ _
                go_wp2
                go_ret
                exact ⟨⟨a, cap, sa, scap, ja, jcap, gc, cc, gd, gr, cr, fa, fc, R, c, B⟩, rfl, rfl, rfl, rfl, RS.make (X := ⟨a, cap, sa, scap, ja, jcap, gc, cc, gd, gr, cr, fa, fc, R, c, B⟩) 6 0 1 4 5 2 3 H7.out (by decide) (by decide) rfl rfl rfl rfl rfl rfl rfl hcR⟩
              exact AllReadyH.nil
            exact AllReadyH.nil
          exact AllReadyH.nil
        refine AllReadyH.cons (toArr_get _ 13 _ rfl) (fun K hK => ?_) ?_
        · go_simp
          refine (missing120 _).mono ?_
          rintro e c4 ⟨v13, rfl, o13, b13⟩
          obtain ⟨gra, cr, rfl⟩ := own_shape o13
          obtain ⟨gr, rfl⟩ := own_some' o13 (by omega)
          have H4 := Lib.hid (H3.out.addN b13 (o13.congr (f' := rnF ts ss js 0) (fun k _ => by unfold rnF; rw [if_neg (Nat.not_lt_zero _)])))
          clear o13 b13
          go_wp2_with fail
          refine hK.out _ _ ?_ (fun hHeld2 => ?_)
          · (try dsimp only)
            (all_goals trivial)
          clear hK K hHeld
          have hHeld := hHeld2
          clear hHeld2
          (try simp only [Act.put, List.setIfInBounds_toArray, List.set_cons_zero, List.set_cons_succ])
          refine wpAnyH_ready (rs := [9, 16]) (by kernel_rfl) (by simp) ?_
          refine AllReadyH.cons (toArr_get _ 9 _ rfl) (fun K hK => ?_) ?_
          · go_simp
            obtain ⟨c5, hc⟩ : ∃ c5, c5 = c4.alloc (.cells #[.slice none 0 0, .func (.func 108) #[] #[.pointer (some ⟨c, 0, none⟩)]] 117) := ⟨_, rfl⟩
            rw [← hc]
            have h := H4.out.addB 117 #[.slice none 0 0, .func (.func 108) #[] #[.pointer (some ⟨c, 0, none⟩)]] (FR c) (by simp) (fun k hk => two_cells _ k hk)
            rw [← hc] at h
            obtain ⟨R, hR⟩ : ∃ R, R = c4.heap.size := ⟨_, rfl⟩
            rw [← hR] at h ⊢
            have hcR : c < R := by rw [hR]; exact (H4.out.lt (j := 2) rfl).2
            have H5 := Lib.hid h
            clear h hc hR
            refine hK.out _ _ ?_ (fun hHeld2 => ?_)
            · (try dsimp only)
              (all_goals trivial)
            clear hK K hHeld
            have hHeld := hHeld2
            clear hHeld2
            (try simp only [Act.put, List.setIfInBounds_toArray, List.set_cons_zero, List.set_cons_succ])
            refine wpAnyH_ready (rs := [16]) (by kernel_rfl) (by simp) ?_
            refine AllReadyH.cons (toArr_get _ 16 _ rfl) (fun K hK => ?_) ?_
            · go_simp
              refine (missing_any js.length _ (by omega)).mono ?_
              rintro e c6 ⟨v16, rfl, o16, b16⟩
              obtain ⟨fa, fc, rfl⟩ := own_shape o16
              have H6 := Lib.hid (H5.out.addN b16 (o16.congr (f' := (srpP ts ss js).gen.fin 0) (fun k _ => rfl)))
              clear o16 b16
              go_wp2_with fail
              refine hK.out _ _ ?_ (fun hHeld2 => ?_)
              · (try dsimp only)
                (all_goals trivial)
              clear hK K hHeld
              have hHeld := hHeld2
              clear hHeld2
              (try simp only [Act.put, List.setIfInBounds_toArray, List.set_cons_zero, List.set_cons_succ])
              refine wpAnyH_take (i := 17) (v := ?_) (toArr_get _ 17 _ rfl) (by kernel_rfl) (by kernel_rfl) (by kernel_rfl) (fun _ _ _ h => h) (Or.inl ⟨by rfl, ?_⟩) (by assumption) ?_
              rotate_left
              · (intro w hSw; (try dsimp only at hSw); go_simp; (try with_reducible rfl))
              (try simp only [Act.put, List.setIfInBounds_toArray, List.set_cons_zero, List.set_cons_succ])
              refine wpAnyH_take (i := 18) (v := ?_) (toArr_get _ 18 _ rfl) (by kernel_rfl) (by kernel_rfl) (by kernel_rfl) (fun _ _ _ h => h) (Or.inl ⟨by rfl, ?_⟩) (by assumption) ?_
              rotate_left
              · (intro w hSw; (try dsimp only at hSw); go_simp; (try with_reducible rfl))
              (try simp only [Act.put, List.setIfInBounds_toArray, List.set_cons_zero, List.set_cons_succ])
              refine wpAnyH_ready (rs := [19]) (by kernel_rfl) (by simp) ?_
              refine AllReadyH.cons (toArr_get _ 19 _ rfl) (fun K hK => ?_) ?_
              · go_simp
                obtain ⟨c7, hc⟩ : ∃ c7, c7 = c6.alloc (.cells #[.slice a ts.length cap, .slice sa ss.length scap, .slice ja js.length jcap, .slice (some ⟨gc, 0, none⟩) 3 cc, .int .i64 0, .pointer (some ⟨R, 0, none⟩), .slice none 0 0, .slice none 0 0, .slice (some ⟨gd, 0, none⟩) js.length js.length, .slice (some ⟨gr, 0, none⟩) 120 cr, .slice fa js.length fc] 79) := ⟨_, rfl⟩
                rw [← hc]
                obtain ⟨B, hB⟩ : ∃ B, B = c6.heap.size := ⟨_, rfl⟩
                have h := H6.out.addB 79 #[.slice a ts.length cap, .slice sa ss.length scap, .slice ja js.length jcap, .slice (some ⟨gc, 0, none⟩) 3 cc, .int .i64 0, .pointer (some ⟨R, 0, none⟩), .slice none 0 0, .slice none 0 0, .slice (some ⟨gd, 0, none⟩) js.length js.length, .slice (some ⟨gr, 0, none⟩) 120 cr, .slice fa js.length fc] (RX.F ⟨a, cap, sa, scap, ja, jcap, gc, cc, gd, gr, cr, fa, fc, R, c, B⟩ ts.length ss.length js.length 0 (.slice none 0 0) (.slice none 0 0)) (by simp) (fun k hk => cells11 ⟨a, cap, sa, scap, ja, jcap, gc, cc, gd, gr, cr, fa, fc, R, c, B⟩ _ _ _ k hk)
                rw [← hc] at h
                rw [← hB] at h ⊢
                have H7 := Lib.hid h
                clear h hc hB
                refine hK.out _ _ ?_ (fun hHeld2 => ?_)
                · (try dsimp only)
                  (all_goals trivial)
                clear hK K hHeld
                have hHeld := hHeld2
                clear hHeld2
                (try simp only [Act.put, List.setIfInBounds_toArray, List.set_cons_zero, List.set_cons_succ])
                refine wpAnyH_take (i := 20) (v := ?_) (toArr_get _ 20 _ rfl) (by kernel_rfl) (by kernel_rfl) (by kernel_rfl) (fun _ _ _ h => h) (Or.inl ⟨by rfl, ?_⟩) (by assumption) ?_
                rotate_left
                · (intro w hSw; (try dsimp only at hSw); go_simp; (try with_reducible rfl))
                (try simp only [Act.put, List.setIfInBounds_toArray, List.set_cons_zero, List.set_cons_succ])
                refine wpAnyH_done (by kernel_rfl) ?_ _
                go_wp2
                go_ret
                exact ⟨⟨a, cap, sa, scap, ja, jcap, gc, cc, gd, gr, cr, fa, fc, R, c, B⟩, rfl, rfl, rfl, rfl, RS.make (X := ⟨a, cap, sa, scap, ja, jcap, gc, cc, gd, gr, cr, fa, fc, R, c, B⟩) 6 0 1 3 5 2 4 H7.out (by decide) (by decide) rfl rfl rfl rfl rfl rfl rfl hcR⟩
              exact AllReadyH.nil
            exact AllReadyH.nil
          refine AllReadyH.cons (toArr_get _ 16 _ rfl) (fun K hK => ?_) ?_
          · go_simp
            refine (missing_any js.length _ (by omega)).mono ?_
            rintro e c5 ⟨v16, rfl, o16, b16⟩
            obtain ⟨fa, fc, rfl⟩ := own_shape o16
            have H5 := Lib.hid (H4.out.addN b16 (o16.congr (f' := (srpP ts ss js).gen.fin 0) (fun k _ => rfl)))
            clear o16 b16
            go_wp2_with fail
            refine hK.out _ _ ?_ (fun hHeld2 => ?_)
            · (try dsimp only)
              (all_goals trivial)
            clear hK K hHeld
            have hHeld := hHeld2
            clear hHeld2
            (try simp only [Act.put, List.setIfInBounds_toArray, List.set_cons_zero, List.set_cons_succ])
            refine wpAnyH_take (i := 17) (v := ?_) (toArr_get _ 17 _ rfl) (by kernel_rfl) (by kernel_rfl) (by kernel_rfl) (fun _ _ _ h => h) (Or.inl ⟨by rfl, ?_⟩) (by assumption) ?_
            rotate_left
            · (intro w hSw; (try dsimp only at hSw); go_simp; (try with_reducible rfl))
            (try simp only [Act.put, List.setIfInBounds_toArray, List.set_cons_zero, List.set_cons_succ])
            refine wpAnyH_ready (rs := [9]) (by kernel_rfl) (by simp) ?_
            refine AllReadyH.cons (toArr_get _ 9 _ rfl) (fun K hK => ?_) ?_
            · go_simp
              obtain ⟨c6, hc⟩ : ∃ c6, c6 = c5.alloc (.cells #[.slice none 0 0, .func (.func 108) #[] #[.pointer (some ⟨c, 0, none⟩)]] 117) := ⟨_, rfl⟩
              rw [← hc]
              have h := H5.out.addB 117 #[.slice none 0 0, .func (.func 108) #[] #[.pointer (some ⟨c, 0, none⟩)]] (FR c) (by simp) (fun k hk => two_cells _ k hk)
              rw [← hc] at h
              obtain ⟨R, hR⟩ : ∃ R, R = c5.heap.size := ⟨_, rfl⟩
              rw [← hR] at h ⊢
              have hcR : c < R := by rw [hR]; exact (H5.out.lt (j := 2) rfl).2
              have H6 := Lib.hid h
              clear h hc hR
              refine hK.out _ _ ?_ (fun hHeld2 => ?_)
              · (try dsimp only)
                (all_goals trivial)
              clear hK K hHeld
              have hHeld := hHeld2
              clear hHeld2
              (try simp only [Act.put, List.setIfInBounds_toArray, List.set_cons_zero, List.set_cons_succ])
              refine wpAnyH_take (i := 18) (v := ?_) (toArr_get _ 18 _ rfl) (by kernel_rfl) (by kernel_rfl) (by kernel_rfl) (fun _ _ _ h => h) (Or.inl ⟨by rfl, ?_⟩) (by assumption) ?_
              rotate_left
              · (intro w hSw; (try dsimp only at hSw); go_simp; (try with_reducible rfl))
              (try simp only [Act.put, List.setIfInBounds_toArray, List.set_cons_zero, List.set_cons_succ])
              refine wpAnyH_ready (rs := [19]) (by kernel_rfl) (by simp) ?_
              refine AllReadyH.cons (toArr_get _ 19 _ rfl) (fun K hK => ?_) ?_
              · go_simp
                obtain ⟨c7, hc⟩ : ∃ c7, c7 = c6.alloc (.cells #[.slice a ts.length cap, .slice sa ss.length scap, .slice ja js.length jcap, .slice (some ⟨gc, 0, none⟩) 3 cc, .int .i64 0, .pointer (some ⟨R, 0, none⟩), .slice none 0 0, .slice none 0 0, .slice (some ⟨gd, 0, none⟩) js.length js.length, .slice (some ⟨gr, 0, none⟩) 120 cr, .slice fa js.length fc] 79) := ⟨_, rfl⟩
                rw [← hc]
                obtain ⟨B, hB⟩ : ∃ B, B = c6.heap.size := ⟨_, rfl⟩
                have h := H6.out.addB 79 #[.slice a ts.length cap, .slice sa ss.length scap, .slice ja js.length jcap, .slice (some ⟨gc, 0, none⟩) 3 cc, .int .i64 0, .pointer (some ⟨R, 0, none⟩), .slice none 0 0, .slice none 0 0, .slice (some ⟨gd, 0, none⟩) js.length js.length, .slice (some ⟨gr, 0, none⟩) 120 cr, .slice fa js.length fc] (RX.F ⟨a, cap, sa, scap, ja, jcap, gc, cc, gd, gr, cr, fa, fc, R, c, B⟩ ts.length ss.length js.length 0 (.slice none 0 0) (.slice none 0 0)) (by simp) (fun k hk => cells11 ⟨a, cap, sa, scap, ja, jcap, gc, cc, gd, gr, cr, fa, fc, R, c, B⟩ _ _ _ k hk)
                rw [← hc] at h
                rw [← hB] at h ⊢
                have H7 := Lib.hid h
                clear h hc hB
                refine hK.out _ _ ?_ (fun hHeld2 => ?_)
                · (try dsimp only)
                  (all_goals trivial)
                clear hK K hHeld
                have hHeld := hHeld2
                clear hHeld2
                (try simp only [Act.put, List.setIfInBounds_toArray, List.set_cons_zero, List.set_cons_succ])
                refine wpAnyH_take (i := 20) (v := ?_) (toArr_get _ 20 _ rfl) (by kernel_rfl) (by kernel_rfl) (by kernel_rfl) (fun _ _ _ h => h) (Or.inl ⟨by rfl, ?_⟩) (by assumption) ?_
                rotate_left
                · (intro w hSw; (try dsimp only at hSw); go_simp; (try with_reducible rfl))
                (try simp only [Act.put, List.setIfInBounds_toArray, List.set_cons_zero, List.set_cons_succ])
                refine wpAnyH_done (by kernel_rfl) ?_ _
                go_wp2
                go_ret
                exact ⟨⟨a, cap, sa, scap, ja, jcap, gc, cc, gd, gr, cr, fa, fc, R, c, B⟩, rfl, rfl, rfl, rfl, RS.make (X := ⟨a, cap, sa, scap, ja, jcap, gc, cc, gd, gr, cr, fa, fc, R, c, B⟩) 6 0 1 3 4 2 5 H7.out (by decide) (by decide) rfl rfl rfl rfl rfl rfl rfl hcR⟩
              exact AllReadyH.nil
            exact AllReadyH.nil
          exact AllReadyH.nil
        exact AllReadyH.nil
      exact AllReadyH.nil
    exact AllReadyH.nil
  refine AllReadyH.cons (toArr_get _ 12 _ rfl) (fun K hK => ?_) ?_
  · go_simp
    obtain ⟨c1, hc⟩ : ∃ c1, c1 = c0.alloc (.cells (madeCells #[.int .i64 0] js.length) 3) := ⟨_, rfl⟩
    rw [← hc]
    have h := H0.out.addN (below_box c0 (.cells (madeCells #[.int .i64 0] js.length) 3)) (made_own c0 js.length (dnF (srpP ts ss js).gen 0) (by unfold maxLen; omega) (fun k _ => by unfold dnF; rw [show (srpP ts ss js).gen.left 0 k = (srpP ts ss js).gen.ex k from rfl, Nat.sub_self]; rfl))
    rw [← hc] at h
    obtain ⟨gd, hgd⟩ : ∃ gd, gd = c0.heap.size := ⟨_, rfl⟩
    rw [← hgd] at h ⊢
    have H1 := Lib.hid h
    clear h hc hgd
    refine hK.out _ _ ?_ (fun hHeld2 => ?_)
    · (try dsimp only)
      (all_goals trivial)
    clear hK K hHeld
    have hHeld := hHeld2
    clear hHeld2
    (try simp only [Act.put, List.setIfInBounds_toArray, List.set_cons_zero, List.set_cons_succ])
    refine wpAnyH_ready (rs := [5]) (by kernel_rfl) (by simp) ?_
    refine AllReadyH.cons (toArr_get _ 5 _ rfl) (fun K hK => ?_) ?_
    · go_simp
      refine (ceilings_any a sa cap scap ts ss _ (HR.out.below H1.out.be) (HS.out.below H1.out.be) HSB.out hn hsn).mono ?_
      rintro e c2 ⟨⟨v5, rfl, o5⟩, b5⟩
      rw [HCE.out] at o5
      obtain ⟨ga, cc, rfl⟩ := own_shape o5
      obtain ⟨gc, rfl⟩ := own_some' o5 (by omega)
      have H2 := Lib.hid (H1.out.addN b5 o5)
      clear o5 b5
      go_wp2_with fail
      refine hK.out _ _ ?_ (fun hHeld2 => ?_)
      · (try dsimp only)
        (all_goals trivial)
      clear hK K hHeld
      have hHeld := hHeld2
      clear hHeld2
      (try simp only [Act.put, List.setIfInBounds_toArray, List.set_cons_zero, List.set_cons_succ])
      refine wpAnyH_ready (rs := [7]) (by kernel_rfl) (by simp) ?_
      refine AllReadyH.cons (toArr_get _ 7 _ rfl) (fun K hK => ?_) ?_
      · go_simp
        refine (earlierNew ja jcap js _).mono ?_
        rintro e c3 ⟨rfl, hc⟩
        have h := H2.out.addB 25 #[.slice ja js.length jcap] (fun _ => .slice ja js.length jcap) (by simp) (fun k hk => one_cell _ k hk)
        rw [← hc] at h
        obtain ⟨c, hcc⟩ : ∃ c, c = c2.heap.size := ⟨_, rfl⟩
        rw [← hcc] at h ⊢
        have H3 := Lib.hid h
        clear h hc hcc
        go_wp2_with fail
        refine hK.out _ _ ?_ (fun hHeld2 => ?_)
        · (try dsimp only)
          (all_goals trivial)
        clear hK K hHeld
        have hHeld := hHeld2
        clear hHeld2
        (try simp only [Act.put, List.setIfInBounds_toArray, List.set_cons_zero, List.set_cons_succ])
        refine wpAnyH_take (i := 8) (v := ?_) (toArr_get _ 8 _ rfl) (by kernel_rfl) (by kernel_rfl) (by kernel_rfl) (fun _ _ _ h => h) (Or.inl ⟨by rfl, ?_⟩) (by assumption) ?_
        rotate_left
        · (intro w hSw; (try dsimp only at hSw); go_simp; (try with_reducible rfl))
        (try simp only [Act.put, List.setIfInBounds_toArray, List.set_cons_zero, List.set_cons_succ])
        refine wpAnyH_ready (rs := [9, 13]) (by kernel_rfl) (by simp) ?_
        refine AllReadyH.cons (toArr_get _ 9 _ rfl) (fun K hK => ?_) ?_
        · go_simp
          obtain ⟨c4, hc⟩ : ∃ c4, c4 = c3.alloc (.cells #[.slice none 0 0, .func (.func 108) #[] #[.pointer (some ⟨c, 0, none⟩)]] 117) := ⟨_, rfl⟩
          rw [← hc]
          have h := H3.out.addB 117 #[.slice none 0 0, .func (.func 108) #[] #[.pointer (some ⟨c, 0, none⟩)]] (FR c) (by simp) (fun k hk => two_cells _ k hk)
          rw [← hc] at h
          obtain ⟨R, hR⟩ : ∃ R, R = c3.heap.size := ⟨_, rfl⟩
          rw [← hR] at h ⊢
          have hcR : c < R := by rw [hR]; exact (H3.out.lt (j := 2) rfl).2
          have H4 := Lib.hid h
          clear h hc hR
          refine hK.out _ _ ?_ (fun hHeld2 => ?_)
          · (try dsimp only)
            (all_goals trivial)
          clear hK K hHeld
          have hHeld := hHeld2
          clear hHeld2
          (try simp only [Act.put, List.setIfInBounds_toArray, List.set_cons_zero, List.set_cons_succ])
          refine wpAnyH_ready (rs := [13]) (by kernel_rfl) (by simp) ?_
          refine AllReadyH.cons (toArr_get _ 13 _ rfl) (fun K hK => ?_) ?_
          · go_simp
            refine (missing120 _).mono ?_
            rintro e c5 ⟨v13, rfl, o13, b13⟩
            obtain ⟨gra, cr, rfl⟩ := own_shape o13
            obtain ⟨gr, rfl⟩ := own_some' o13 (by omega)
            have H5 := Lib.hid (H4.out.addN b13 (o13.congr (f' := rnF ts ss js 0) (fun k _ => by unfold rnF; rw [if_neg (Nat.not_lt_zero _)])))
            clear o13 b13
            go_wp2_with fail
            refine hK.out _ _ ?_ (fun hHeld2 => ?_)
            · (try dsimp only)
              (all_goals trivial)
            clear hK K hHeld
            have hHeld := hHeld2
            clear hHeld2
            (try simp only [Act.put, List.setIfInBounds_toArray, List.set_cons_zero, List.set_cons_succ])
            refine wpAnyH_ready (rs := [16]) (by kernel_rfl) (by simp) ?_
            refine AllReadyH.cons (toArr_get _ 16 _ rfl) (fun K hK => ?_) ?_
            · go_simp
              refine (missing_any js.length _ (by omega)).mono ?_
              rintro e c6 ⟨v16, rfl, o16, b16⟩
              obtain ⟨fa, fc, rfl⟩ := own_shape o16
              have H6 := Lib.hid (H5.out.addN b16 (o16.congr (f' := (srpP ts ss js).gen.fin 0) (fun k _ => rfl)))
              clear o16 b16
              go_wp2_with fail
              refine hK.out _ _ ?_ (fun hHeld2 => ?_)
              · (try dsimp only)
                (all_goals trivial)
              clear hK K hHeld
              have hHeld := hHeld2
              clear hHeld2
              (try simp only [Act.put, List.setIfInBounds_toArray, List.set_cons_zero, List.set_cons_succ])
              refine wpAnyH_take (i := 17) (v := ?_) (toArr_get _ 17 _ rfl) (by kernel_rfl) (by kernel_rfl) (by kernel_rfl) (fun _ _ _ h => h) (Or.inl ⟨by rfl, ?_⟩) (by assumption) ?_
              rotate_left
              · (intro w hSw; (try dsimp only at hSw); go_simp; (try with_reducible rfl))
              (try simp only [Act.put, List.setIfInBounds_toArray, List.set_cons_zero, List.set_cons_succ])
              refine wpAnyH_take (i := 18) (v := ?_) (toArr_get _ 18 _ rfl) (by kernel_rfl) (by kernel_rfl) (by kernel_rfl) (fun _ _ _ h => h) (Or.inl ⟨by rfl, ?_⟩) (by assumption) ?_
              rotate_left
              · (intro w hSw; (try dsimp only at hSw); go_simp; (try with_reducible rfl))
              (try simp only [Act.put, List.setIfInBounds_toArray, List.set_cons_zero, List.set_cons_succ])
              refine wpAnyH_ready (rs := [19]) (by kernel_rfl) (by simp) ?_
              refine AllReadyH.cons (toArr_get _ 19 _ rfl) (fun K hK => ?_) ?_
              · go_simp
                obtain ⟨c7, hc⟩ : ∃ c7, c7 = c6.alloc (.cells #[.slice a ts.length cap, .slice sa ss.length scap, .slice ja js.length jcap, .slice (some ⟨gc, 0, none⟩) 3 cc, .int .i64 0, .pointer (some ⟨R, 0, none⟩), .slice none 0 0, .slice none 0 0, .slice (some ⟨gd, 0, none⟩) js.length js.length, .slice (some ⟨gr, 0, none⟩) 120 cr, .slice fa js.length fc] 79) := ⟨_, rfl⟩
                rw [← hc]
                obtain ⟨B, hB⟩ : ∃ B, B = c6.heap.size := ⟨_, rfl⟩
                have h := H6.out.addB 79 #[.slice a ts.length cap, .slice sa ss.length scap, .slice ja js.length jcap, .slice (some ⟨gc, 0, none⟩) 3 cc, .int .i64 0, .pointer (some ⟨R, 0, none⟩), .slice none 0 0, .slice none 0 0, .slice (some ⟨gd, 0, none⟩) js.length js.length, .slice (some ⟨gr, 0, none⟩) 120 cr, .slice fa js.length fc] (RX.F ⟨a, cap, sa, scap, ja, jcap, gc, cc, gd, gr, cr, fa, fc, R, c, B⟩ ts.length ss.length js.length 0 (.slice none 0 0) (.slice none 0 0)) (by simp) (fun k hk => cells11 ⟨a, cap, sa, scap, ja, jcap, gc, cc, gd, gr, cr, fa, fc, R, c, B⟩ _ _ _ k hk)
                rw [← hc] at h
                rw [← hB] at h ⊢
                have H7 := Lib.hid h
                clear h hc hB
                refine hK.out _ _ ?_ (fun hHeld2 => ?_)
                · (try dsimp only)
                  (all_goals trivial)
                clear hK K hHeld
                have hHeld := hHeld2
                clear hHeld2
                (try simp only [Act.put, List.setIfInBounds_toArray, List.set_cons_zero, List.set_cons_succ])
                refine wpAnyH_take (i := 20) (v := ?_) (toArr_get _ 20 _ rfl) (by kernel_rfl) (by kernel_rfl) (by kernel_rfl) (fun _ _ _ h => h) (Or.inl ⟨by rfl, ?_⟩) (by assumption) ?_
                rotate_left
                · (intro w hSw; (try dsimp only at hSw); go_simp; (try with_reducible rfl))
                (try simp only [Act.put, List.setIfInBounds_toArray, List.set_cons_zero, List.set_cons_succ])
                refine wpAnyH_done (by kernel_rfl) ?_ _
                go_wp2
                go_ret
                exact ⟨⟨a, cap, sa, scap, ja, jcap, gc, cc, gd, gr, cr, fa, fc, R, c, B⟩, rfl, rfl, rfl, rfl, RS.make (X := ⟨a, cap, sa, scap, ja, jcap, gc, cc, gd, gr, cr, fa, fc, R, c, B⟩) 6 1 0 4 5 2 3 H7.out (by decide) (by decide) rfl rfl rfl rfl rfl rfl rfl hcR⟩
              exact AllReadyH.nil
            exact AllReadyH.nil
          exact AllReadyH.nil
        refine AllReadyH.cons (toArr_get _ 13 _ rfl) (fun K hK => ?_) ?_
        · go_simp
          refine (missing120 _).mono ?_
          rintro e c4 ⟨v13, rfl, o13, b13⟩
          obtain ⟨gra, cr, rfl⟩ := own_shape o13
          obtain ⟨gr, rfl⟩ := own_some' o13 (by omega)
          have H4 := Lib.hid (H3.out.addN b13 (o13.congr (f' := rnF ts ss js 0) (fun k _ => by unfold rnF; rw [if_neg (Nat.not_lt_zero _)])))
          clear o13 b13
          go_wp2_with fail
          refine hK.out _ _ ?_ (fun hHeld2 => ?_)
          · (try dsimp only)
            (all_goals trivial)
          clear hK K hHeld
          have hHeld := hHeld2
          clear hHeld2
          (try simp only [Act.put, List.setIfInBounds_toArray, List.set_cons_zero, List.set_cons_succ])
          refine wpAnyH_ready (rs := [9, 16]) (by kernel_rfl) (by simp) ?_
          refine AllReadyH.cons (toArr_get _ 9 _ rfl) (fun K hK => ?_) ?_
          · go_simp
            obtain ⟨c5, hc⟩ : ∃ c5, c5 = c4.alloc (.cells #[.slice none 0 0, .func (.func 108) #[] #[.pointer (some ⟨c, 0, none⟩)]] 117) := ⟨_, rfl⟩
            rw [← hc]
            have h := H4.out.addB 117 #[.slice none 0 0, .func (.func 108) #[] #[.pointer (some ⟨c, 0, none⟩)]] (FR c) (by simp) (fun k hk => two_cells _ k hk)
            rw [← hc] at h
            obtain ⟨R, hR⟩ : ∃ R, R = c4.heap.size := ⟨_, rfl⟩
            rw [← hR] at h ⊢
            have hcR : c < R := by rw [hR]; exact (H4.out.lt (j := 2) rfl).2
            have H5 := Lib.hid h
            clear h hc hR
            refine hK.out _ _ ?_ (fun hHeld2 => ?_)
            · (try dsimp only)
              (all_goals trivial)
            clear hK K hHeld
            have hHeld := hHeld2
            clear hHeld2
            (try simp only [Act.put, List.setIfInBounds_toArray, List.set_cons_zero, List.set_cons_succ])
            refine wpAnyH_ready (rs := [16]) (by kernel_rfl) (by simp) ?_
            refine AllReadyH.cons (toArr_get _ 16 _ rfl) (fun K hK => ?_) ?_
            · go_simp
              refine (missing_any js.length _ (by omega)).mono ?_
              rintro e c6 ⟨v16, rfl, o16, b16⟩
              obtain ⟨fa, fc, rfl⟩ := own_shape o16
              have H6 := Lib.hid (H5.out.addN b16 (o16.congr (f' := (srpP ts ss js).gen.fin 0) (fun k _ => rfl)))
              clear o16 b16
              go_wp2_with fail
              refine hK.out _ _ ?_ (fun hHeld2 => ?_)
              · (try dsimp only)
                (all_goals trivial)
              clear hK K hHeld
              have hHeld := hHeld2
              clear hHeld2
              (try simp only [Act.put, List.setIfInBounds_toArray, List.set_cons_zero, List.set_cons_succ])
              refine wpAnyH_take (i := 17) (v := ?_) (toArr_get _ 17 _ rfl) (by kernel_rfl) (by kernel_rfl) (by kernel_rfl) (fun _ _ _ h => h) (Or.inl ⟨by rfl, ?_⟩) (by assumption) ?_
              rotate_left
              · (intro w hSw; (try dsimp only at hSw); go_simp; (try with_reducible rfl))
              (try simp only [Act.put, List.setIfInBounds_toArray, List.set_cons_zero, List.set_cons_succ])
              refine wpAnyH_take (i := 18) (v := ?_) (toArr_get _ 18 _ rfl) (by kernel_rfl) (by kernel_rfl) (by kernel_rfl) (fun _ _ _ h => h) (Or.inl ⟨by rfl, ?_⟩) (by assumption) ?_
              rotate_left
              · (intro w hSw; (try dsimp only at hSw); go_simp; (try with_reducible rfl))
              (try simp only [Act.put, List.setIfInBounds_toArray, List.set_cons_zero, List.set_cons_succ])
              refine wpAnyH_ready (rs := [19]) (by kernel_rfl) (by simp) ?_
              refine AllReadyH.cons (toArr_get _ 19 _ rfl) (fun K hK => ?_) ?_
              · go_simp
                obtain ⟨c7, hc⟩ : ∃ c7, c7 = c6.alloc (.cells #[.slice a ts.length cap, .slice sa ss.length scap, .slice ja js.length jcap, .slice (some ⟨gc, 0, none⟩) 3 cc, .int .i64 0, .pointer (some ⟨R, 0, none⟩), .slice none 0 0, .slice none 0 0, .slice (some ⟨gd, 0, none⟩) js.length js.length, .slice (some ⟨gr, 0, none⟩) 120 cr, .slice fa js.length fc] 79) := ⟨_, rfl⟩
                rw [← hc]
                obtain ⟨B, hB⟩ : ∃ B, B = c6.heap.size := ⟨_, rfl⟩
                have h := H6.out.addB 79 #[.slice a ts.length cap, .slice sa ss.length scap, .slice ja js.length jcap, .slice (some ⟨gc, 0, none⟩) 3 cc, .int .i64 0, .pointer (some ⟨R, 0, none⟩), .slice none 0 0, .slice none 0 0, .slice (some ⟨gd, 0, none⟩) js.length js.length, .slice (some ⟨gr, 0, none⟩) 120 cr, .slice fa js.length fc] (RX.F ⟨a, cap, sa, scap, ja, jcap, gc, cc, gd, gr, cr, fa, fc, R, c, B⟩ ts.length ss.length js.length 0 (.slice none 0 0) (.slice none 0 0)) (by simp) (fun k hk => cells11 ⟨a, cap, sa, scap, ja, jcap, gc, cc, gd, gr, cr, fa, fc, R, c, B⟩ _ _ _ k hk)
                rw [← hc] at h
                rw [← hB] at h ⊢
                have H7 := Lib.hid h
                clear h hc hB
                refine hK.out _ _ ?_ (fun hHeld2 => ?_)
                · (try dsimp only)
                  (all_goals trivial)
                clear hK K hHeld
                have hHeld := hHeld2
                clear hHeld2
                (try simp only [Act.put, List.setIfInBounds_toArray, List.set_cons_zero, List.set_cons_succ])
                refine wpAnyH_take (i := 20) (v := ?_) (toArr_get _ 20 _ rfl) (by kernel_rfl) (by kernel_rfl) (by kernel_rfl) (fun _ _ _ h => h) (Or.inl ⟨by rfl, ?_⟩) (by assumption) ?_
                rotate_left
                · (intro w hSw; (try dsimp only at hSw); go_simp; (try with_reducible rfl))
                (try simp only [Act.put, List.setIfInBounds_toArray, List.set_cons_zero, List.set_cons_succ])
                refine wpAnyH_done (by kernel_rfl) ?_ _
                go_wp2
                go_ret
                exact ⟨⟨a, cap, sa, scap, ja, jcap, gc, cc, gd, gr, cr, fa, fc, R, c, B⟩, rfl, rfl, rfl, rfl, RS.make (X := ⟨a, cap, sa, scap, ja, jcap, gc, cc, gd, gr, cr, fa, fc, R, c, B⟩) 6 1 0 3 5 2 4 H7.out (by decide) (by decide) rfl rfl rfl rfl rfl rfl rfl hcR⟩
              exact AllReadyH.nil
            exact AllReadyH.nil
          refine AllReadyH.cons (toArr_get _ 16 _ rfl) (fun K hK => ?_) ?_
          · go_simp
            refine (missing_any js.length _ (by omega)).mono ?_
            rintro e c5 ⟨v16, rfl, o16, b16⟩
            obtain ⟨fa, fc, rfl⟩ := own_shape o16
            have H5 := Lib.hid (H4.out.addN b16 (o16.congr (f' := (srpP ts ss js).gen.fin 0) (fun k _ => rfl)))
            clear o16 b16
            go_wp2_with fail
            refine hK.out _ _ ?_ (fun hHeld2 => ?_)
            · (try dsimp only)
              (all_goals trivial)
            clear hK K hHeld
            have hHeld := hHeld2
            clear hHeld2
            (try simp only [Act.put, List.setIfInBounds_toArray, List.set_cons_zero, List.set_cons_succ])
            refine wpAnyH_take (i := 17) (v := ?_) (toArr_get _ 17 _ rfl) (by kernel_rfl) (by kernel_rfl) (by kernel_rfl) (fun _ _ _ h => h) (Or.inl ⟨by rfl, ?_⟩) (by assumption) ?_
            rotate_left
            · (intro w hSw; (try dsimp only at hSw); go_simp; (try with_reducible rfl))
            (try simp only [Act.put, List.setIfInBounds_toArray, List.set_cons_zero, List.set_cons_succ])
            refine wpAnyH_ready (rs := [9]) (by kernel_rfl) (by simp) ?_
            refine AllReadyH.cons (toArr_get _ 9 _ rfl) (fun K hK => ?_) ?_
            · go_simp
              obtain ⟨c6, hc⟩ : ∃ c6, c6 = c5.alloc (.cells #[.slice none 0 0, .func (.func 108) #[] #[.pointer (some ⟨c, 0, none⟩)]] 117) := ⟨_, rfl⟩
              rw [← hc]
              have h := H5.out.addB 117 #[.slice none 0 0, .func (.func 108) #[] #[.pointer (some ⟨c, 0, none⟩)]] (FR c) (by simp) (fun k hk => two_cells _ k hk)
              rw [← hc] at h
              obtain ⟨R, hR⟩ : ∃ R, R = c5.heap.size := ⟨_, rfl⟩
              rw [← hR] at h ⊢
              have hcR : c < R := by rw [hR]; exact (H5.out.lt (j := 2) rfl).2
              have H6 := Lib.hid h
              clear h hc hR
              refine hK.out _ _ ?_ (fun hHeld2 => ?_)
              · (try dsimp only)
                (all_goals trivial)
              clear hK K hHeld
              have hHeld := hHeld2
              clear hHeld2
              (try simp only [Act.put, List.setIfInBounds_toArray, List.set_cons_zero, List.set_cons_succ])
              refine wpAnyH_take (i := 18) (v := ?_) (toArr_get _ 18 _ rfl) (by kernel_rfl) (by kernel_rfl) (by kernel_rfl) (fun _ _ _ h => h) (Or.inl ⟨by rfl, ?_⟩) (by assumption) ?_
              rotate_left
              · (intro w hSw; (try dsimp only at hSw); go_simp; (try with_reducible rfl))
              (try simp only [Act.put, List.setIfInBounds_toArray, List.set_cons_zero, List.set_cons_succ])
              refine wpAnyH_ready (rs := [19]) (by kernel_rfl) (by simp) ?_
              refine AllReadyH.cons (toArr_get _ 19 _ rfl) (fun K hK => ?_) ?_
              · go_simp
                obtain ⟨c7, hc⟩ : ∃ c7, c7 = c6.alloc (.cells #[.slice a ts.length cap, .slice sa ss.length scap, .slice ja js.length jcap, .slice (some ⟨gc, 0, none⟩) 3 cc, .int .i64 0, .pointer (some ⟨R, 0, none⟩), .slice none 0 0, .slice none 0 0, .slice (some ⟨gd, 0, none⟩) js.length js.length, .slice (some ⟨gr, 0, none⟩) 120 cr, .slice fa js.length fc] 79) := ⟨_, rfl⟩
                rw [← hc]
                obtain ⟨B, hB⟩ : ∃ B, B = c6.heap.size := ⟨_, rfl⟩
                have h := H6.out.addB 79 #[.slice a ts.length cap, .slice sa ss.length scap, .slice ja js.length jcap, .slice (some ⟨gc, 0, none⟩) 3 cc, .int .i64 0, .pointer (some ⟨R, 0, none⟩), .slice none 0 0, .slice none 0 0, .slice (some ⟨gd, 0, none⟩) js.length js.length, .slice (some ⟨gr, 0, none⟩) 120 cr, .slice fa js.length fc] (RX.F ⟨a, cap, sa, scap, ja, jcap, gc, cc, gd, gr, cr, fa, fc, R, c, B⟩ ts.length ss.length js.length 0 (.slice none 0 0) (.slice none 0 0)) (by simp) (fun k hk => cells11 ⟨a, cap, sa, scap, ja, jcap, gc, cc, gd, gr, cr, fa, fc, R, c, B⟩ _ _ _ k hk)
                rw [← hc] at h
                rw [← hB] at h ⊢
                have H7 := Lib.hid h
                clear h hc hB
                refine hK.out _ _ ?_ (fun hHeld2 => ?_)
                · (try dsimp only)
                  (all_goals trivial)
                clear hK K hHeld
                have hHeld := hHeld2
                clear hHeld2
                (try simp only [Act.put, List.setIfInBounds_toArray, List.set_cons_zero, List.set_cons_succ])
                refine wpAnyH_take (i := 20) (v := ?_) (toArr_get _ 20 _ rfl) (by kernel_rfl) (by kernel_rfl) (by kernel_rfl) (fun _ _ _ h => h) (Or.inl ⟨by rfl, ?_⟩) (by assumption) ?_
                rotate_left
                · (intro w hSw; (try dsimp only at hSw); go_simp; (try with_reducible rfl))
                (try simp only [Act.put, List.setIfInBounds_toArray, List.set_cons_zero, List.set_cons_succ])
                refine wpAnyH_done (by kernel_rfl) ?_ _
                go_wp2
                go_ret
                exact ⟨⟨a, cap, sa, scap, ja, jcap, gc, cc, gd, gr, cr, fa, fc, R, c, B⟩, rfl, rfl, rfl, rfl, RS.make (X := ⟨a, cap, sa, scap, ja, jcap, gc, cc, gd, gr, cr, fa, fc, R, c, B⟩) 6 1 0 3 4 2 5 H7.out (by decide) (by decide) rfl rfl rfl rfl rfl rfl rfl hcR⟩
              exact AllReadyH.nil
            exact AllReadyH.nil
          exact AllReadyH.nil
        exact AllReadyH.nil
      exact AllReadyH.nil
    exact AllReadyH.nil
  exact AllReadyH.nil

end Go.Proofs.Ytlagghoohloklaa
