/- Contract of the program's WorstChoices. Conditions: the slice holds what is said; at most 2^40 nodes. -/
import Derived.Test.YtlcdmjcikbgnpaaPrgRunP
import Derived.Test.YtlcdmjcikbgnpaaPrgWst
namespace Go.Proofs.Ytlcdmjcikbgnpaa
open Go.RowKit Go.Deep

theorem append_at8 {P : Program} (w : World) {o : Oper} {a : Act} {K : Act → World → Prop} {Q : Exit → Act → World → Prop} (s x : Operand) (t : TypeId)
    (ho : o.op = .call { callee := .builtin .append, args := #[s, x], argTypes := #[t, t] })
    (base : Nat) (e : TypeId) (i : TypeInfo) (z : Value) (size bytes : Nat) (ht : P.underlying t = some (.slice e)) (hi : P.info? e = some i) (hz : i.zero = some z)
    (hsize : i.size = size) (hby : i.bytes = bytes) (hzs : z.cells.size = size) (hsz : 0 < size)
    (v : Value) (n : Nat) (xs : List Value) (hs : a.eval s = v) (hown : w.ownsRow base e size v n xs)
    (ad : Addr) (m c : Nat) (news : List Value) (hx : a.eval x = .slice (some ad) m c) (hl : news.length = m * size) (hnews : ∀ j u, news[j]? = some u → w.cell? (ad.add j) = some u) (h1 : ∀ u ∈ news, u.oneCell' = true)
    (h63 : n + m ≤ maxLen) (hbytes : (n + m) * bytes ≤ 140737488355328) (hbase : base ≤ w.heap.size) (hm : 0 < m)
    (h : ∀ v' w', w'.ownsRow base e size v' (n + m) (xs ++ news) → w.grownBy w' v.ownBlock → (v'.ownBlock = v.ownBlock ∨ v'.ownBlock = some w.heap.size) → v' ≠ .slice none 0 0 → K (a.put o.dst v') w') : o.wp P a w K Q := by
  obtain ⟨v', w', hr, h2, h3, h4, h5⟩ := append_at (P := P) w base t o.type e i z size bytes ht hi hz hsize hby hzs hsz v n xs hown ad m c news hl hnews h1 h63 hbytes hbase hm
  unfold Oper.wp execOp
  simp only [ho, resolve, invoke, builtin, Sem.run_bind, Sem.run_pure, Result.andThen_ok, List.map_toArray, List.map_cons, List.map_nil, hs, hx, hr]
  exact h v' w' h2 h3 h4 h5

theorem ownI_nil {w : World} {base n : Nat} {v : Value} {f : Nat → Int} (h : OwnI w base v n f) (hn : v.ownBlock = none) : v = .slice none 0 0 := by
  obtain ⟨_, ⟨e, _⟩ | ⟨g, cap, cur, e, _⟩⟩ := h
  · exact e
  · rw [e] at hn; simp [Value.ownBlock] at hn

/-! ### A worst execution, as it is chosen -/
theorem itr8_const {W c : Nat} {l : List Int} : ∀ (k u : Nat) (s : List Int), itr8 (fun s => (W, s ++ l)) c k (u, s) = (u + k * (c + W), s ++ (List.replicate k l).flatten)
  | 0, u, s => by simp [itr8]
  | k + 1, u, s => by
    simp only [itr8, List.replicate_succ, List.flatten_cons]
    rw [itr8_const k (u + c + W) (s ++ l), Nat.add_mul, Nat.one_mul, List.append_assoc]
    congr 1
    omega
def chW (ps : List N5) (i _m : Nat) (s : List Int) : Nat × List Int := (chc8 ps i, s ++ [(chc8 ps i : Int)])
def rsW (ps : List N5) (i : Nat) (s : List Int) : Nat × List Int := (wc8 true ps i, s ++ ws8 ps i)
theorem rsW_branch {ps : List N5} (hv : PV ps) {i c x y : Nat} (hi : i < ps.length) (h6 : wc8 true ps i ≤ 600) (h : nd8 ps i = (3, (c : Int), (x : Int), (y : Int), 0)) (ha : x < i) (hb : y < i) (m : Nat) (s : List Int) : rsW ps i s = (c + (rsW ps (if (chW ps i m s).1 = 0 then x else y) (chW ps i m s).2).1, (rsW ps (if (chW ps i m s).1 = 0 then x else y) (chW ps i m s).2).2) := by
  have hw := wc8_branch (w := true) h ha hb
  rw [if_pos rfl] at hw
  have kx := cp8_is (w := true) hv x (by omega)
  have ky := cp8_is (w := true) hv y (by omega)
  have hc : chc8 ps i = if wc8 true ps x < wc8 true ps y then 1 else 0 := by unfold chc8; rw [h]; simp
  have hs := ws8_branch h ha hb
  unfold rsW chW
  simp only
  rw [hw, hs, hc]
  by_cases e : wc8 true ps x < wc8 true ps y
  · rw [if_pos e, if_neg (show ¬ cp8 true ps y ≤ cp8 true ps x by omega), if_neg (by decide), Nat.max_eq_right (by omega)]
    simp
  · rw [if_neg e, if_pos (show cp8 true ps y ≤ cp8 true ps x by omega), if_pos rfl, Nat.max_eq_left (by omega)]
    simp
theorem chc8_loop {ps : List N5} {i c x m : Nat} (h : nd8 ps i = (4, (c : Int), (x : Int), 0, (m : Int))) : chc8 ps i = m := by unfold chc8; rw [h]; simp
theorem rsW_loop {ps : List N5} {i c x m : Nat} (h : nd8 ps i = (4, (c : Int), (x : Int), 0, (m : Int))) (ha : x < i) (q : Nat) (s : List Int) : rsW ps i s = itr8 (rsW ps x) c (chW ps i q s).1 (c, (chW ps i q s).2) := by
  have hw := wc8_loop (w := true) h ha
  rw [if_pos rfl] at hw
  unfold rsW chW
  simp only
  rw [chc8_loop h, itr8_const, hw, ws8_loop h ha]
  simp

/-- What WorstChoices's closure keeps: block nB holds the slice of the choices so far, which lies in block sb; all below nB is as in w0. -/
def WsSt (w0 : World) (nB p2 : Nat) (w : World) (sb : Nat) (s : List Int) : Prop :=
  nB < w.heap.size ∧ w0.heap.size = nB ∧ p2 < nB ∧ (∀ b, b < nB → w.heap[b]? = w0.heap[b]?) ∧ ∃ v, w.cell? ⟨nB, 0, none⟩ = some v ∧ w.frozen? ⟨nB, 0, none⟩ = false ∧ OwnI w (nB + 1) v s.length (fun k => s.getD k 0) ∧ ((v = .slice none 0 0 ∧ sb = nB) ∨ v.ownBlock = some sb)
theorem wsSt_blk {w0 w : World} {nB p2 sb : Nat} {s : List Int} (h : WsSt w0 nB p2 w sb s) : nB ≤ nB ∧ nB < w.heap.size ∧ nB ≤ sb ∧ sb < w.heap.size := by
  obtain ⟨h1, h2, h3, h4, v, h5, h6, h7, h8⟩ := h
  rcases h8 with ⟨_, rfl⟩ | h8
  · exact ⟨Nat.le_refl _, h1, Nat.le_refl _, h1⟩
  · have := h7.lt sb h8
    omega
theorem wsSt_keep {w0 w w' : World} {nB p2 sb B0 : Nat} {s : List Int} (h : WsSt w0 nB p2 w sb s) (hz : w.heap.size ≤ w'.heap.size) (hB : nB ≤ B0) (hk : ∀ b, b < B0 ∨ b = nB ∨ b = sb → w'.heap[b]? = w.heap[b]?) : WsSt w0 nB p2 w' sb s := by
  obtain ⟨h1, h2, h3, h4, v, h5, h6, h7, h8⟩ := h
  have hb := hk nB (.inr (.inl rfl))
  refine ⟨by omega, h2, h3, fun b hb => (hk b (.inl (by omega))).trans (h4 b hb), v, (World.cell?_of_block (a := ⟨nB, 0, none⟩) hb).trans h5, (World.frozen?_of_block (a := ⟨nB, 0, none⟩) hb).trans h6, ?_, h8⟩
  obtain ⟨e1, h9 | ⟨g, cap, cur, e, h10, h11, h12⟩⟩ := h7
  · exact ⟨e1, .inl h9⟩
  · refine ⟨e1, .inr ⟨g, cap, cur, e, h10, ?_, h12⟩⟩
    have hg : g = sb := by
      rcases h8 with ⟨h8, -⟩ | h8
      · rw [e] at h8; simp at h8
      · rw [e] at h8
        simpa [Value.ownBlock] using h8
    rw [hk g (.inr (.inr hg))]
    exact h11

set_option maxRecDepth 100000 in
set_option maxHeartbeats 4000000 in
/-- impl.WorstChoices's closure. -/
theorem worstClosure_any (w0 : World) (nB p2 : Nat) (sa : Option Addr) (scap : Nat) (ps : List N5) (hc2 : w0.cell? ⟨p2, 0, none⟩ = some (.slice sa ps.length scap)) (hrow : Row w0 sa (sps8 ps ps.length)) (w : World) (sb : Nat) (s : List Int) (hs : WsSt w0 nB p2 w sb s) (hn : s.length ≤ 600) (i m : Nat) (hi : i < ps.length) :
    Calls Try.prog 49 #[.int .i64 (i : Int), .int .i64 (m : Int), .pointer (some ⟨nB, 0, none⟩), .pointer (some ⟨p2, 0, none⟩)] w fun e w' =>
      ∃ sb', e = .returned (.int .i64 ((chW ps i m s).1 : Nat)) ∧ WsSt w0 nB p2 w' sb' (chW ps i m s).2 ∧ ChgP (fun b => b = nB ∨ b = sb) w w' ∧ (sb' = sb ∨ w.heap.size ≤ sb') := by
  have HBK := Lib.hid (wsSt_blk hs)
  obtain ⟨hz, hz0, hp2, hk, v, c0, f0, hov, hsb⟩ := hs
  obtain ⟨b, off, rfl, hb, -, -, y2⟩ := hrow.at (show i < (sps8 ps ps.length).length by rw [sps8_len]; exact hi)
  rw [sps8_at ps hi] at y2
  unfold sp8 at y2
  simp only at y2
  unfold chW
  simp only
  obtain ⟨c, hc⟩ : ∃ c, c = chc8 ps i := ⟨_, rfl⟩
  rw [← hc] at y2 ⊢
  have HSS := Lib.hid (fun (w' : World) (h : ∀ x, x < nB → w'.heap[x]? = w.heap[x]?) => show w'.cell? ⟨p2, 0, none⟩ = some (.slice (some ⟨b, off, none⟩) ps.length scap) ∧ w'.cell? ⟨b, off + i * 3 + 2, none⟩ = some (.int .i64 (c : Int)) from
    ⟨(World.cell?_of_block (a := ⟨p2, 0, none⟩) ((h p2 hp2).trans (hk p2 hp2))).trans hc2, (World.cell?_of_block (a := ⟨b, off + i * 3 + 2, none⟩) ((h b (by omega)).trans (hk b (by omega)))).trans y2⟩)
  obtain ⟨i0, xi, xz, xsz, xby⟩ := info_parts intInfo
  have HI := Lib.hid (And.intro xi (And.intro xz (And.intro xsz xby)))
  have HOV := Lib.hid hov
  have HSB := Lib.hid hsb
  have HK := Lib.hid hk
  have HZ0 := Lib.hid hz0
  have HNB := Lib.hid (show some nB ≠ v.ownBlock from fun e => by have := (hov.lt _ e.symm).1; omega)
  have hi0 : (0 : Int) ≤ i := by omega
  have hi1 : (i : Int) < ps.length := by omega
  clear xi xz xsz xby hc2 hrow hc hsb hk hz0 y2 hov
  go_enter Try.func49, Try.ntmps49
  go_wp2_with fail
  refine wp_region_held_drew (S := (fun w' => w'.cell? ⟨p2, 0, none⟩ = some (.slice (some ⟨b, off, none⟩) ps.length scap) ∧ w'.cell? ⟨b, off + i * 3 + 2, none⟩ = some (.int .i64 (c : Int)))) (by kernel_rfl) ?_ (fun hHeld => ?_)
  · (try dsimp only)
    exact HSS.out _ (fun x hx => rfl)
  refine wpAnyH_take (i := 1) (v := ?_) (toArr_get _ 1 _ rfl) (by kernel_rfl) (by kernel_rfl) (by kernel_rfl) (fun _ _ _ h => h) (Or.inl ⟨by rfl, ?_⟩) (by assumption) ?_
  rotate_left
  · (intro w hSw; (try dsimp only at hSw); go_simp; (try with_reducible rfl))
  (try simp only [Act.put, List.setIfInBounds_toArray, List.set_cons_zero, List.set_cons_succ])
  refine wpAnyH_take (i := 2) (v := ?_) (toArr_get _ 2 _ rfl) (by kernel_rfl) (by kernel_rfl) (by kernel_rfl) (fun _ _ _ h => h) (Or.inl ⟨by rfl, ?_⟩) (by assumption) ?_
  rotate_left
  · (intro w hSw; (try dsimp only at hSw); go_simp; (try with_reducible rfl))
  (try simp only [Act.put, List.setIfInBounds_toArray, List.set_cons_zero, List.set_cons_succ])
  refine wpAnyH_take (i := 3) (v := ?_) (toArr_get _ 3 _ rfl) (by kernel_rfl) (by kernel_rfl) (by kernel_rfl) (fun _ _ _ h => h) (Or.inl ⟨by rfl, ?_⟩) (by assumption) ?_
  rotate_left
  · (intro w hSw; (try dsimp only at hSw); go_simp; (try with_reducible rfl))
  (try simp only [Act.put, List.setIfInBounds_toArray, List.set_cons_zero, List.set_cons_succ])
  refine wpAnyH_take (i := 4) (v := ?_) (toArr_get _ 4 _ rfl) (by kernel_rfl) (by kernel_rfl) (by kernel_rfl) (fun _ _ _ h => h) (Or.inl ⟨by rfl, ?_⟩) (by assumption) ?_
  rotate_left
  · (intro w hSw; (try dsimp only at hSw); go_simp; (try with_reducible rfl))
  (try simp only [Act.put, List.setIfInBounds_toArray, List.set_cons_zero, List.set_cons_succ])
  refine wpAnyH_take (i := 5) (v := ?_) (toArr_get _ 5 _ rfl) (by kernel_rfl) (by kernel_rfl) (by kernel_rfl) (fun _ _ _ h => h) (Or.inl ⟨by rfl, ?_⟩) (by assumption) ?_
  rotate_left
  · (intro w hSw; (try dsimp only at hSw); go_simp; (try with_reducible rfl))
  (try simp only [Act.put, List.setIfInBounds_toArray, List.set_cons_zero, List.set_cons_succ])
  refine wpAnyH_ready (rs := [0, 6]) (by kernel_rfl) (by simp) ?_
  refine AllReadyH.cons (toArr_get _ 0 _ rfl) (fun K hK => ?_) ?_
  · go_simp
    refine hK.out _ _ ?_ (fun hHeld2 => ?_)
    · (try dsimp only)
      first | exact HSS.out _ (fun x hx => rfl) | exact HSS.out _ (fun x hx => (below_box w _).block x (by omega))
    clear hK K hHeld
    have hHeld := hHeld2
    clear hHeld2
    (try simp only [Act.put, List.setIfInBounds_toArray, List.set_cons_zero, List.set_cons_succ])
    refine wpAnyH_ready (rs := [6]) (by kernel_rfl) (by simp) ?_
    refine AllReadyH.cons (toArr_get _ 6 _ rfl) (fun K hK => ?_) ?_
    · go_simp
      refine hK.out _ _ ?_ (fun hHeld2 => ?_)
      · (try dsimp only)
        exact HSS.out _ (fun x hx => (below_box w _).block x (by omega))
      clear hK K hHeld
      have hHeld := hHeld2
      clear hHeld2
      (try simp only [Act.put, List.setIfInBounds_toArray, List.set_cons_zero, List.set_cons_succ])
      have BW := Lib.hid (show Below w.heap.size w ((w.alloc (.cells #[.int .i64 (c : Int)] 3)).drew) from (below_box w _).drew)
      have HN1 := Lib.hid (news1 w (c : Int) 3)
      refine wpAnyH_ready (rs := [7]) (by kernel_rfl) (by simp) ?_
      refine AllReadyH.cons (toArr_get _ 7 _ rfl) (fun K hK => ?_) ?_
      · (try rw [if_pos (by rfl)])
        refine append_at8 _ (.tmp 7) (.tmp 13) 30 rfl (nB + 1) 3 i0 _ 1 8 Try.underlying30 HI.out.1 HI.out.2.1 HI.out.2.2.1 HI.out.2.2.2 rfl (by decide) v s.length (vals (fun k => s.getD k 0) s.length) rfl (HOV.out.below BW.out) ⟨w.heap.size, 0, none⟩ 1 1 [.int .i64 (c : Int)] rfl rfl HN1.out (one1 _) (by unfold maxLen; omega) (by omega) (by have := BW.out.size; omega) (by omega) ?_
        intro V6 w6 hown hgrow hwhere hnn
        obtain ⟨a6, k6, rfl⟩ := own_shape hown
        have HG := Lib.hid (show ChgP (fun x => x = nB ∨ x = sb) w w6 from ⟨hgrow.os.trans BW.out.os, hgrow.tape.trans BW.out.tape, hgrow.output.trans BW.out.output, Nat.le_trans BW.out.size hgrow.size, fun x hx hn => (hgrow.block x (Nat.lt_of_lt_of_le hx BW.out.size) (fun e => by rcases HSB.out with ⟨h, -⟩ | h; rw [h] at e; simp [Value.ownBlock] at e; rw [h] at e; simp only [Option.some.injEq] at e; exact hn (.inr e))).trans (BW.out.block x hx)⟩)
        have c6 : w6.cell? ⟨nB, 0, none⟩ = some v := hgrow.cell ((BW.out.cell (p := ⟨nB, 0, none⟩) hz).trans c0) HNB.out
        have f6 : w6.frozen? ⟨nB, 0, none⟩ = false := (World.frozen?_of_block (a := ⟨nB, 0, none⟩) (hgrow.block nB (Nat.lt_of_lt_of_le hz BW.out.size) HNB.out)).trans ((BW.out.frozen (p := ⟨nB, 0, none⟩) hz).trans f0)
        have HL6 := Lib.hid (show ∀ x, x < nB → w6.heap[x]? = w.heap[x]? from fun x hx => HG.out.block x (by omega) (by have := HBK.out; rintro (rfl | rfl) <;> omega))
        have HO6 := Lib.hid (show OwnI w6 (nB + 1) (Value.slice a6 (s.length + 1) k6) (s ++ [(c : Int)]).length (fun k => (s ++ [(c : Int)]).getD k 0) by unfold OwnI; rw [← vals_app, List.length_append]; exact hown)
        have HW6 := Lib.hid (show (Value.slice a6 (s.length + 1) k6).ownBlock = some sb ∨ ∃ q, (Value.slice a6 (s.length + 1) k6).ownBlock = some q ∧ w.heap.size ≤ q by rcases hwhere with h | h; rcases HSB.out with ⟨h2, -⟩ | h2; exact absurd (ownI_nil HO6.out (by rw [h, h2]; rfl)) hnn; exact .inl (h.trans h2); exact .inr ⟨_, h, BW.out.size⟩)
        have hz6 : nB < w6.heap.size := Nat.lt_of_lt_of_le hz HG.out.size
        clear hown hgrow hwhere hnn c0 f0
        refine hK.out _ _ ?_ (fun hHeld2 => ?_)
        · (try dsimp only)
          exact HSS.out _ HL6.out
        clear hK K hHeld
        have hHeld := hHeld2
        clear hHeld2
        (try simp only [Act.put, List.setIfInBounds_toArray, List.set_cons_zero, List.set_cons_succ])
        refine wpAnyH_ready (rs := [8]) (by kernel_rfl) (by simp) ?_
        refine AllReadyH.cons (toArr_get _ 8 _ rfl) (fun K hK => ?_) ?_
        · go_simp
          refine hK.out _ _ ?_ (fun hHeld2 => ?_)
          · (try dsimp only)
            exact HSS.out _ (fun x hx => (by simp [World.setCell, Array.getElem?_modify, show nB ≠ x by omega] : (w6.setCell ⟨nB, 0, none⟩ (Value.slice a6 (s.length + 1) k6)).heap[x]? = w6.heap[x]?).trans (HL6.out x hx))
          clear hK K hHeld
          have hHeld := hHeld2
          clear hHeld2
          (try simp only [Act.put, List.setIfInBounds_toArray, List.set_cons_zero, List.set_cons_succ])
          refine wpAnyH_done (by kernel_rfl) ?_ _
          obtain ⟨W7, hW7⟩ : ∃ W7, W7 = w6.setCell ⟨nB, 0, none⟩ (Value.slice a6 (s.length + 1) k6) := ⟨_, rfl⟩
          have HSW := Lib.hid (show W7.cell? ⟨p2, 0, none⟩ = some (.slice (some ⟨b, off, none⟩) ps.length scap) ∧ W7.cell? ⟨b, off + i * 3 + 2, none⟩ = some (.int .i64 (c : Int)) by rw [hW7]; exact HSS.out _ (fun x hx => (by simp [World.setCell, Array.getElem?_modify, show nB ≠ x by omega] : (w6.setCell ⟨nB, 0, none⟩ (Value.slice a6 (s.length + 1) k6)).heap[x]? = w6.heap[x]?).trans (HL6.out x hx)))
          have HC7 := Lib.hid (show ChgP (fun x => x = nB ∨ x = sb) w W7 by rw [hW7]; exact HG.out.trans (ChgP.set (P := fun x => x = nB ∨ x = sb) w6 ⟨nB, 0, none⟩ (Value.slice a6 (s.length + 1) k6) (.inl rfl)) (fun _ _ h => h))
          have HO7 := Lib.hid (show OwnI W7 (nB + 1) (Value.slice a6 (s.length + 1) k6) (s ++ [(c : Int)]).length (fun k => (s ++ [(c : Int)]).getD k 0) by rw [hW7]; exact HO6.out.other (fun e => by have := (HO6.out.lt _ e).1; simp only at this; omega))
          have HX7 := Lib.hid (show W7.cell? ⟨nB, 0, none⟩ = some (Value.slice a6 (s.length + 1) k6) ∧ W7.frozen? ⟨nB, 0, none⟩ = false ∧ nB < W7.heap.size ∧ ∀ x, x < nB → W7.heap[x]? = w.heap[x]? by rw [hW7]; exact ⟨by go_simp, by go_simp, by simpa using hz6, fun x hx => (by simp [World.setCell, Array.getElem?_modify, show nB ≠ x by omega] : (w6.setCell ⟨nB, 0, none⟩ (Value.slice a6 (s.length + 1) k6)).heap[x]? = w6.heap[x]?).trans (HL6.out x hx)⟩)
          (try rw [← hW7])
          have z1 := HSW.out.1
          have z2 := HSW.out.2
          clear hW7 c6 f6
          go_wp2
          go_ret
          have hfin : ∀ sb', (Value.slice a6 (s.length + 1) k6).ownBlock = some sb' → WsSt w0 nB p2 W7 sb' (s ++ [(c : Int)]) := fun sb' h => ⟨HX7.out.2.2.1, HZ0.out, hp2, fun x hx => (HX7.out.2.2.2 x hx).trans (HK.out x hx), (Value.slice a6 (s.length + 1) k6), HX7.out.1, HX7.out.2.1, HO7.out, .inr h⟩
          rcases HW6.out with h | ⟨q, h, hq⟩
          · exact ⟨sb, rfl, hfin sb h, HC7.out, .inl rfl⟩
          · exact ⟨q, rfl, hfin q h, HC7.out, .inr hq⟩
        exact AllReadyH.nil
      exact AllReadyH.nil
    exact AllReadyH.nil
  refine AllReadyH.cons (toArr_get _ 6 _ rfl) (fun K hK => ?_) ?_
  · go_simp
    refine hK.out _ _ ?_ (fun hHeld2 => ?_)
    · (try dsimp only)
      exact HSS.out _ (fun x hx => (below_box w _).block x (by omega))
    clear hK K hHeld
    have hHeld := hHeld2
    clear hHeld2
    (try simp only [Act.put, List.setIfInBounds_toArray, List.set_cons_zero, List.set_cons_succ])
    refine wpAnyH_ready (rs := [0]) (by kernel_rfl) (by simp) ?_
    refine AllReadyH.cons (toArr_get _ 0 _ rfl) (fun K hK => ?_) ?_
    · go_simp
      refine hK.out _ _ ?_ (fun hHeld2 => ?_)
      · (try dsimp only)
        first | exact HSS.out _ (fun x hx => rfl) | exact HSS.out _ (fun x hx => (below_box w _).block x (by omega))
      clear hK K hHeld
      have hHeld := hHeld2
      clear hHeld2
      (try simp only [Act.put, List.setIfInBounds_toArray, List.set_cons_zero, List.set_cons_succ])
      have BW := Lib.hid (show Below w.heap.size w ((w.alloc (.cells #[.int .i64 (c : Int)] 3)).drew) from (below_box w _).drew)
      have HN1 := Lib.hid (news1 w (c : Int) 3)
      refine wpAnyH_ready (rs := [7]) (by kernel_rfl) (by simp) ?_
      refine AllReadyH.cons (toArr_get _ 7 _ rfl) (fun K hK => ?_) ?_
      · (try rw [if_pos (by rfl)])
        refine append_at8 _ (.tmp 7) (.tmp 13) 30 rfl (nB + 1) 3 i0 _ 1 8 Try.underlying30 HI.out.1 HI.out.2.1 HI.out.2.2.1 HI.out.2.2.2 rfl (by decide) v s.length (vals (fun k => s.getD k 0) s.length) rfl (HOV.out.below BW.out) ⟨w.heap.size, 0, none⟩ 1 1 [.int .i64 (c : Int)] rfl rfl HN1.out (one1 _) (by unfold maxLen; omega) (by omega) (by have := BW.out.size; omega) (by omega) ?_
        intro V6 w6 hown hgrow hwhere hnn
        obtain ⟨a6, k6, rfl⟩ := own_shape hown
        have HG := Lib.hid (show ChgP (fun x => x = nB ∨ x = sb) w w6 from ⟨hgrow.os.trans BW.out.os, hgrow.tape.trans BW.out.tape, hgrow.output.trans BW.out.output, Nat.le_trans BW.out.size hgrow.size, fun x hx hn => (hgrow.block x (Nat.lt_of_lt_of_le hx BW.out.size) (fun e => by rcases HSB.out with ⟨h, -⟩ | h; rw [h] at e; simp [Value.ownBlock] at e; rw [h] at e; simp only [Option.some.injEq] at e; exact hn (.inr e))).trans (BW.out.block x hx)⟩)
        have c6 : w6.cell? ⟨nB, 0, none⟩ = some v := hgrow.cell ((BW.out.cell (p := ⟨nB, 0, none⟩) hz).trans c0) HNB.out
        have f6 : w6.frozen? ⟨nB, 0, none⟩ = false := (World.frozen?_of_block (a := ⟨nB, 0, none⟩) (hgrow.block nB (Nat.lt_of_lt_of_le hz BW.out.size) HNB.out)).trans ((BW.out.frozen (p := ⟨nB, 0, none⟩) hz).trans f0)
        have HL6 := Lib.hid (show ∀ x, x < nB → w6.heap[x]? = w.heap[x]? from fun x hx => HG.out.block x (by omega) (by have := HBK.out; rintro (rfl | rfl) <;> omega))
        have HO6 := Lib.hid (show OwnI w6 (nB + 1) (Value.slice a6 (s.length + 1) k6) (s ++ [(c : Int)]).length (fun k => (s ++ [(c : Int)]).getD k 0) by unfold OwnI; rw [← vals_app, List.length_append]; exact hown)
        have HW6 := Lib.hid (show (Value.slice a6 (s.length + 1) k6).ownBlock = some sb ∨ ∃ q, (Value.slice a6 (s.length + 1) k6).ownBlock = some q ∧ w.heap.size ≤ q by rcases hwhere with h | h; rcases HSB.out with ⟨h2, -⟩ | h2; exact absurd (ownI_nil HO6.out (by rw [h, h2]; rfl)) hnn; exact .inl (h.trans h2); exact .inr ⟨_, h, BW.out.size⟩)
        have hz6 : nB < w6.heap.size := Nat.lt_of_lt_of_le hz HG.out.size
        clear hown hgrow hwhere hnn c0 f0
        refine hK.out _ _ ?_ (fun hHeld2 => ?_)
        · (try dsimp only)
          exact HSS.out _ HL6.out
        clear hK K hHeld
        have hHeld := hHeld2
        clear hHeld2
        (try simp only [Act.put, List.setIfInBounds_toArray, List.set_cons_zero, List.set_cons_succ])
        refine wpAnyH_ready (rs := [8]) (by kernel_rfl) (by simp) ?_
        refine AllReadyH.cons (toArr_get _ 8 _ rfl) (fun K hK => ?_) ?_
        · go_simp
          refine hK.out _ _ ?_ (fun hHeld2 => ?_)
          · (try dsimp only)
            exact HSS.out _ (fun x hx => (by simp [World.setCell, Array.getElem?_modify, show nB ≠ x by omega] : (w6.setCell ⟨nB, 0, none⟩ (Value.slice a6 (s.length + 1) k6)).heap[x]? = w6.heap[x]?).trans (HL6.out x hx))
          clear hK K hHeld
          have hHeld := hHeld2
          clear hHeld2
          (try simp only [Act.put, List.setIfInBounds_toArray, List.set_cons_zero, List.set_cons_succ])
          refine wpAnyH_done (by kernel_rfl) ?_ _
          obtain ⟨W7, hW7⟩ : ∃ W7, W7 = w6.setCell ⟨nB, 0, none⟩ (Value.slice a6 (s.length + 1) k6) := ⟨_, rfl⟩
          have HSW := Lib.hid (show W7.cell? ⟨p2, 0, none⟩ = some (.slice (some ⟨b, off, none⟩) ps.length scap) ∧ W7.cell? ⟨b, off + i * 3 + 2, none⟩ = some (.int .i64 (c : Int)) by rw [hW7]; exact HSS.out _ (fun x hx => (by simp [World.setCell, Array.getElem?_modify, show nB ≠ x by omega] : (w6.setCell ⟨nB, 0, none⟩ (Value.slice a6 (s.length + 1) k6)).heap[x]? = w6.heap[x]?).trans (HL6.out x hx)))
          have HC7 := Lib.hid (show ChgP (fun x => x = nB ∨ x = sb) w W7 by rw [hW7]; exact HG.out.trans (ChgP.set (P := fun x => x = nB ∨ x = sb) w6 ⟨nB, 0, none⟩ (Value.slice a6 (s.length + 1) k6) (.inl rfl)) (fun _ _ h => h))
          have HO7 := Lib.hid (show OwnI W7 (nB + 1) (Value.slice a6 (s.length + 1) k6) (s ++ [(c : Int)]).length (fun k => (s ++ [(c : Int)]).getD k 0) by rw [hW7]; exact HO6.out.other (fun e => by have := (HO6.out.lt _ e).1; simp only at this; omega))
          have HX7 := Lib.hid (show W7.cell? ⟨nB, 0, none⟩ = some (Value.slice a6 (s.length + 1) k6) ∧ W7.frozen? ⟨nB, 0, none⟩ = false ∧ nB < W7.heap.size ∧ ∀ x, x < nB → W7.heap[x]? = w.heap[x]? by rw [hW7]; exact ⟨by go_simp, by go_simp, by simpa using hz6, fun x hx => (by simp [World.setCell, Array.getElem?_modify, show nB ≠ x by omega] : (w6.setCell ⟨nB, 0, none⟩ (Value.slice a6 (s.length + 1) k6)).heap[x]? = w6.heap[x]?).trans (HL6.out x hx)⟩)
          (try rw [← hW7])
          have z1 := HSW.out.1
          have z2 := HSW.out.2
          clear hW7 c6 f6
          go_wp2
          go_ret
          have hfin : ∀ sb', (Value.slice a6 (s.length + 1) k6).ownBlock = some sb' → WsSt w0 nB p2 W7 sb' (s ++ [(c : Int)]) := fun sb' h => ⟨HX7.out.2.2.1, HZ0.out, hp2, fun x hx => (HX7.out.2.2.2 x hx).trans (HK.out x hx), (Value.slice a6 (s.length + 1) k6), HX7.out.1, HX7.out.2.1, HO7.out, .inr h⟩
          rcases HW6.out with h | ⟨q, h, hq⟩
          · exact ⟨sb, rfl, hfin sb h, HC7.out, .inl rfl⟩
          · exact ⟨q, rfl, hfin q h, HC7.out, .inr hq⟩
        exact AllReadyH.nil
      exact AllReadyH.nil
    exact AllReadyH.nil
  exact AllReadyH.nil

theorem row_keep8 {ps : List N5} {a : Option Addr} {w0 : World} {nB : Nat} (hr : RowN w0 a ps) (h0 : w0.heap.size = nB) (w w' : World) (h : RowN w a ps) (hz : w.heap.size ≤ w'.heap.size) (hk : ∀ b, b < nB → w'.heap[b]? = w.heap[b]?) : RowN w' a ps := by
  intro k hkl
  obtain ⟨b, off, ha, hlt0, -⟩ := hr k hkl
  obtain ⟨b', off', ha', hlt, c0, c1, c2, c3, c4⟩ := h k hkl
  rw [ha] at ha'
  simp only [Option.some.injEq, Addr.mk.injEq, and_true] at ha'
  obtain ⟨rfl, rfl⟩ := ha'
  have hb' := hk b (by omega)
  exact ⟨b, off, ha, by omega, (World.cell?_of_block (a := ⟨b, off + k * 5, none⟩) hb').trans c0, (World.cell?_of_block (a := ⟨b, off + k * 5 + 1, none⟩) hb').trans c1, (World.cell?_of_block (a := ⟨b, off + k * 5 + 2, none⟩) hb').trans c2, (World.cell?_of_block (a := ⟨b, off + k * 5 + 3, none⟩) hb').trans c3, (World.cell?_of_block (a := ⟨b, off + k * 5 + 4, none⟩) hb').trans c4⟩

/-- WorstChoices's closure chooses as a worst execution does. -/
theorem worstChooser (ps : List N5) (a : Option Addr) (w0 : World) (nB p2 E : Nat) (sa : Option Addr) (scap : Nat) (hv : PV ps) (hn12 : ps.length ≤ 12) (hE : nB < E) (hr : RowN w0 a ps) (h0 : w0.heap.size = nB) (hc2 : w0.cell? ⟨p2, 0, none⟩ = some (.slice sa ps.length scap)) (hrow : Row w0 sa (sps8 ps ps.length)) :
    Chooser ps a nB E nB 49 nB p2 (WsSt w0 nB p2) (chW ps) (rsW ps) (fun s t => s.length ≤ t) where
  eg := fun args w => calls_eg Try.func49 (by kernel_rfl) rfl args w
  pv := hv
  n12 := hn12
  e0 := by omega
  en := by omega
  row := row_keep8 hr h0
  blk := fun w sb s hs => wsSt_blk hs
  keep := fun w w' sb s hs hz hk => wsSt_keep hs hz (Nat.le_refl _) hk
  call := fun w sb s t i m hs hl ht hi _ _ _ => worstClosure_any w0 nB p2 sa scap ps hc2 hrow w sb s hs (by omega) i m hi
  lenC := fun s t i m h => by unfold chW; simp only [List.length_append, List.length_singleton]; omega
  lenM := fun s t t' h ht => by omega
  r1 := fun i c s h => by unfold rsW; rw [wc8_block h, ws8_block h, List.append_nil]
  r2 := fun i x y s _ _ h ha hb => by unfold rsW; simp only; rw [wc8_seq h ha hb, ws8_seq h ha hb, List.append_assoc]
  r3 := fun i c x y s hi h6 h ha hb => rsW_branch hv hi h6 h ha hb 2 s
  r4 := fun i c x m s _ _ h ha _ => rsW_loop h ha (m + 1) s
  bnd := fun i s _ => Nat.le_refl _
  lpk := fun i c x m s h => by unfold chW; simp only; rw [chc8_loop h]; exact Nat.le_refl _

set_option maxRecDepth 100000 in
set_option maxHeartbeats 4000000 in
/-- impl.WorstChoices. -/
theorem implWorstChoices_any (a : Option Addr) (cap : Nat) (ps : List N5) (w : World) (hr : RowN w a ps) (hn : ps.length ≤ 1099511627776) :
    Calls Try.prog 23 #[.slice a ps.length cap] w fun e w' => ∃ v', e = .returned v' ∧ OwnI w' w.heap.size v' (wh8 ps).length (fun k => (wh8 ps).getD k 0) ∧ Below w.heap.size w w' := by
  have HR := Lib.hid hr
  clear hr
  go_enter Try.func23, Try.ntmps23
  go_wp2_with fail
  refine (measured_any a cap ps w HR.out hn).mono ?_
  rintro e w1 ⟨v, rfl, ho, hnv, b1⟩
  have B1 := Lib.hid b1
  clear b1
  cases hv : pvB ps with
  | false =>
    have HF := Lib.hid (show wh8 ps = [] from if_neg (by rw [hv]; simp))
    obtain rfl := hnv hv
    clear hv ho hnv
    go_wp2
    go_ret
    rw [HF.out]
    exact ⟨_, rfl, OwnI.nil _ _ _, B1.out.trans ((below_box _ _).mono B1.out.size)⟩
  | true =>
    replace ho := ho hv
    obtain ⟨⟨hl1, hl2⟩, hpv, -⟩ := pv_iff.1 hv
    have H6 := Lib.hid (pv_cst hv)
    have HPV := Lib.hid hpv
    have HF := Lib.hid (show wh8 ps = ws8 ps (ps.length - 1) from if_pos hv)
    have HL := Lib.hid (And.intro hl1 hl2)
    obtain ⟨sa, scap, e⟩ := ho.shape
    rw [sps8_len] at e
    subst e
    have HO := Lib.hid ho
    clear hv hpv hl1 hl2 ho hnv
    go_wp2_with fail
    obtain ⟨W2, hW2⟩ : ∃ W2, W2 = w1.alloc (.cells #[.slice sa ps.length scap] 49) := ⟨_, rfl⟩
    have HB2 := Lib.hid (show Below w1.heap.size w1 W2 by rw [hW2]; exact below_box _ _)
    have HZ2 := Lib.hid (show W2.heap.size = w1.heap.size + 1 ∧ W2.cell? ⟨w1.heap.size, 0, none⟩ = some (.slice sa ps.length scap) by rw [hW2]; exact ⟨by simp, by go_simp⟩)
    obtain ⟨W3, hW3⟩ : ∃ W3, W3 = W2.alloc (.cells #[.slice none 0 0] 30) := ⟨_, rfl⟩
    have HB3 := Lib.hid (show Below W2.heap.size W2 W3 by rw [hW3]; exact below_box _ _)
    have HZ3 := Lib.hid (show W3.heap.size = W2.heap.size + 1 ∧ W3.cell? ⟨W2.heap.size, 0, none⟩ = some (.slice none 0 0) ∧ W3.frozen? ⟨W2.heap.size, 0, none⟩ = false by rw [hW3]; exact ⟨by simp, by go_simp, by go_simp⟩)
    have hz2 := HZ2.out.1
    rw [show w1.heap.size + 1 = W2.heap.size from hz2.symm]
    rw [← hW2, ← hW3]
    clear hW2 hW3 hz2
    obtain ⟨L, hL⟩ : ∃ L : Nat, L + 1 = ps.length := ⟨ps.length - 1, by have := HL.out.1; omega⟩
    have h6 := H6.out
    have hF := HF.out
    rw [show ps.length - 1 = L by omega] at h6 hF
    have R2 := (HR.out.below B1.out).below HB2.out
    have hs : WsSt W2 W2.heap.size w1.heap.size W3 W2.heap.size [] :=
      ⟨by have := HZ3.out.1; omega, rfl, by have := HZ2.out.1; omega, fun b hb => HB3.out.block b hb, _, HZ3.out.2.1, HZ3.out.2.2, OwnI.nil _ _ _, .inl ⟨rfl, rfl⟩⟩
    have K := executed_any cap W3 (fun E hE => worstChooser ps a W2 W2.heap.size w1.heap.size E sa scap HPV.out HL.out.2 (by have := HZ3.out.1; omega) R2 rfl HZ2.out.2 (HO.out.row.below HB2.out)) (R2.below HB3.out) W2.heap.size [] hs (Nat.le_refl _) L hL h6
    have HK := Lib.hid K
    have HFF := Lib.hid hF
    clear K hs hL h6 hF R2
    refine HK.out.mono ?_
    rintro e w4 ⟨rfl, sb', hst, hc4, -⟩
    obtain ⟨h1, -, -, h4, v4, h5, h6, h7, -⟩ := hst
    have HB4 := Lib.hid (show Below w.heap.size w w4 from ((B1.out.trans (HB2.out.mono B1.out.size)).trans (HB3.out.mono (Nat.le_trans B1.out.size HB2.out.size))).trans (hc4.below (by have := B1.out.size; have := HZ2.out.1; have := HZ3.out.1; omega) (by have := B1.out.size; have := HZ2.out.1; rintro b (rfl | rfl) <;> omega)))
    have HO4 := Lib.hid (show OwnI w4 w.heap.size v4 (ws8 ps L).length (fun k => (ws8 ps L).getD k 0) from OwnI.mono (by simpa [rsW] using h7) (by have := B1.out.size; have := HZ2.out.1; omega))
    clear hc4 h7 h1 h4 h6
    go_wp2
    go_ret
    rw [HFF.out]
    exact ⟨_, rfl, HO4.out, HB4.out⟩

end Go.Proofs.Ytlcdmjcikbgnpaa
