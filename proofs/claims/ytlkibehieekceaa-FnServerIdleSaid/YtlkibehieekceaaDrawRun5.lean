/- Slices of request patterns in memory; contracts of spec.DrawServersFeasible and spec.DrawRunServers. What is drawn is not told, only its bounds. Condition: the argument is a slice of bytes. -/
import Derived.Test.YtlkibehieekceaaDrawSrv
import Derived.Test.YtlkibehieekceaaDrawJobs
namespace Go.Proofs.Ytlkibehieekceaa
open Go.RowKit Go.Deep

theorem own2_cap {t : TypeId} {w : World} {base : Nat} {a : Option Addr} {cap : Nat} {l : List A2} (h : Own2 t w base (.slice a l.length cap) l) : l.length ≤ cap := by
  obtain ⟨_, ⟨e, h0⟩ | ⟨g, cap', cur, e, h3, hb, hnc, hcm, hsz, hx⟩⟩ := h
  · omega
  · simp only [Value.slice.injEq] at e
    omega
/-- A slice that holds these request patterns. -/
def RowSS (w : World) (a : Option Addr) (als : List (List A2)) : Prop :=
  ∀ k, k < als.length → ∃ b off ad cap, a = some ⟨b, off, none⟩ ∧ b < w.heap.size ∧ w.cell? ⟨b, off + k, none⟩ = some (.slice ad (als.getD k []).length cap) ∧ (als.getD k []).length ≤ cap ∧ Row2 w ad (als.getD k [])
theorem RowSS.below {w w' : World} {a : Option Addr} {als : List (List A2)} (h : RowSS w a als) (hb : Below w.heap.size w w') : RowSS w' a als := fun k hk => by
  obtain ⟨b, off, ad, cap, h1, h2, h3, h4, h5⟩ := h k hk
  exact ⟨b, off, ad, cap, h1, Nat.lt_of_lt_of_le h2 hb.size, (hb.cell (p := ⟨b, _, none⟩) h2).trans h3, h4, h5.below hb⟩
/-- Since w only the reader rb and new blocks have turned; the slice v of new memory holds the slices vs, which hold the patterns als. -/
structure AT (rb : Nat) (w wr : World) (q : Nat) (v : Value) (vs : List Value) (als : List (List A2)) : Prop where
  gb : w.grownBy wr (some rb)
  rd : Rd wr rb q
  rl : rb < w.heap.size
  ln : vs.length = als.length
  ow : wr.ownsRow w.heap.size 105 1 v als.length vs
  el : ∀ k u, vs[k]? = some u → Own2 139 wr w.heap.size u (als.getD k []) ∧ Apart u v
variable {rb : Nat} {w wr w' : World} {q q' : Nat} {v v' s : Value} {vs : List Value} {als : List (List A2)} {o : List A2}
theorem AT.lt (h : AT rb w wr q v vs als) : ∀ k, v.ownBlock = some k → w.heap.size ≤ k ∧ k < wr.heap.size := World.ownsRow.lt h.ow
theorem AT.pick (h : AT rb w wr q v vs als) (hg : wr.grownBy w' (some rb)) (hr : Rd w' rb q') : AT rb w w' q' v vs als :=
  ⟨gb_trans h.gb hg, hr, h.rl, h.ln, World.ownsRow.kept h.ow hg (by cases e : v.ownBlock with
    | none => exact .inl rfl
    | some k => exact .inr (fun h2 => by have := (h.lt k e).1; have := h.rl; simp only [Option.some.injEq] at h2; omega)), fun k u hu => ⟨(h.el k u hu).1.kept hg h.rl, (h.el k u hu).2⟩⟩
theorem AT.more (h : AT rb w wr q v vs als) (hq : q ≤ q') : AT rb w wr q' v vs als := { h with rd := h.rd.mono hq }
theorem AT.alloc (h : AT rb w wr q v vs als) (x : Obj) : AT rb w (wr.alloc x) q v vs als := h.pick (gb_below (below_box _ _)) (h.rd.alloc _)
theorem AT.start (hr : Rd w rb q) : AT rb w (w.alloc (.cells #[] 105)) q (.slice (some ⟨w.heap.size, 0, none⟩) 0 0) [] [] :=
  ⟨gb_below (below_box _ _), hr.alloc _, hr.lt, rfl, ⟨rfl, .inr ⟨w.heap.size, 0, #[], rfl, Nat.le_refl _, blk_alloc_new _ _, Nat.le_refl _, by simp [maxLen], rfl, rfl⟩⟩, fun k u hu => by simp at hu⟩
/-- A pattern drawn behind them lies apart. -/
theorem AT.inner (h : AT rb w wr q v vs als) (hp : PT 139 rb wr w' q' s o) : AT rb w w' q' v vs als ∧ Own2 139 w' w.heap.size s o ∧ Apart s v :=
  ⟨h.pick hp.gb hp.rd, hp.ow.mono h.gb.size, fun k hk hv => by have := (hp.ow.lt k hk).1; have := (h.lt k hv).2; omega⟩
theorem AT.push (h : AT rb w wr q v vs als) (hs : Own2 139 wr w.heap.size s o) (ha : Apart s v) (ho : w'.ownsRow w.heap.size 105 1 v' (als.length + 1) (vs ++ [s])) (hg : wr.grownBy w' v.ownBlock)
    (hp : v'.ownBlock = v.ownBlock ∨ v'.ownBlock = some wr.heap.size) : AT rb w w' q v' (vs ++ [s]) (als ++ [o]) := by
  have hl := h.rl
  have hsz := h.gb.size
  have hr : ∀ k, v.ownBlock = some k → w.heap.size ≤ k := fun k hk => (h.lt k hk).1
  have hap : ∀ {u : Value} {l : List A2}, Own2 139 wr w.heap.size u l → Apart u v → Own2 139 w' w.heap.size u l ∧ Apart u v' := fun {u l} h1 h2 => by
    refine ⟨World.ownsRow.kept h1 hg (by cases e : u.ownBlock with
      | none => exact .inl rfl
      | some k => exact .inr (fun h => h2 k e h.symm)), fun k hk hv => ?_⟩
    rcases hp with e | e
    · exact h2 k hk (e ▸ hv)
    · rw [e] at hv
      have := (h1.lt k hk).2
      simp only [Option.some.injEq] at hv
      omega
  refine ⟨⟨hg.os.trans h.gb.os, hg.tape.trans h.gb.tape, hg.output.trans h.gb.output, Nat.le_trans hsz hg.size, fun k hk hne => ?_⟩, h.rd.kept hg.size fun i hi => hg.block i (by omega) fun e => by have := hr i e.symm; omega, h.rl, by simp [h.ln], by simpa using ho, fun k u hu => ?_⟩
  · exact (hg.block k (by omega) fun e => by have := hr k e.symm; omega).trans (h.gb.block k hk hne)
  · by_cases hk : k < vs.length
    · rw [List.getElem?_append_left hk] at hu
      have h1 := h.el k u hu
      have e : (als ++ [o]).getD k [] = als.getD k [] := by
        simp only [List.getD_eq_getElem?_getD]
        rw [List.getElem?_append_left (by rw [← h.ln]; exact hk)]
      rw [e]
      exact hap h1.1 h1.2
    · have hk2 : k = vs.length := by
        have := (List.getElem?_eq_some_iff.1 hu).1
        simp at this
        omega
      subst hk2
      have e : (als ++ [o]).getD vs.length [] = o := by
        rw [h.ln]
        simp
      have e2 : u = s := by simpa using hu.symm
      rw [e, e2]
      exact hap hs ha
theorem AT.rowSS {a : Option Addr} {cap : Nat} (h : AT rb w wr q (.slice a als.length cap) vs als) : RowSS wr a als := fun k hk => by
  have hkv : k < vs.length := by rw [h.ln]; exact hk
  obtain ⟨h1, _⟩ := h.el k _ (List.getElem?_eq_getElem hkv)
  obtain ⟨_, ⟨_, e⟩ | ⟨g, cap', cur, e, h3, hb, hnc, hcm, hsz, hx⟩⟩ := h.ow
  · omega
  · simp only [Value.slice.injEq] at e
    have hg : g < wr.heap.size := (Array.getElem?_eq_some_iff.1 hb).1
    obtain ⟨ad, c2, hv⟩ := h1.shape
    rw [hv] at h1
    refine ⟨g, 0, ad, c2, e.1, hg, ?_, own2_cap h1, h1.row2⟩
    have hc : cur.toList[k]? = some vs[k] := by
      rw [← List.getElem?_take_of_lt (show k < als.length * 1 by omega), hx]
      exact List.getElem?_eq_getElem hkv
    rw [Array.getElem?_toList] at hc
    rw [Nat.zero_add]
    simp [World.cell?, hb, hc, hv]
theorem sliceInfo : (Try.prog.info? 105).map (fun i => (i.zero, i.size, i.bytes)) = some (some (.slice none 0 0), 1, 24) := by kernel_rfl
theorem news1v (w : World) (u : Value) (t : TypeId) : ∀ (j : Nat) (x : Value), [u][j]? = some x → (w.alloc (.cells #[u] t)).cell? ((⟨w.heap.size, 0, none⟩ : Addr).add j) = some x := by
  intro j x hj
  match j, hj with
  | 0, hj => simp at hj; subst hj; simp [Addr.add, go_sem]
  | j + 1, hj => simp at hj
theorem one1s (a : Option Addr) (n c : Nat) : ∀ u ∈ [Value.slice a n c], u.oneCell' = true := by
  intro u hu
  simp at hu
  subst hu
  rfl
theorem results_tmp4 {fn : Func} {t u v x : Tmp} (h : fn.results = #[.tmp t, .tmp u, .tmp v, .tmp x]) (tmps : Array Value) (P : Program) (w : World) :
    (results fn tmps).run P w = .ok (.tuple #[tmps.getD t undef, tmps.getD u undef, tmps.getD v undef, tmps.getD x undef]) w := by
  simp [results, h]
/-- A task set, not nil, and servers were drawn. -/
def GotSS (w : World) (e : Ending) (w' : World) : Prop :=
  ∃ (g cap scap : Nat) (sa : Option Addr) (ts : List T3) (ss : List A2), e = .returned (.tuple #[.slice (some ⟨g, 0, none⟩) ts.length cap, .slice sa ss.length scap]) ∧ ts.length ≤ 12 ∧ ts.length ≤ cap ∧ cap ≤ maxLen ∧ ss.length ≤ 3 ∧
    Row w' (some ⟨g, 0, none⟩) ts ∧ Own2 137 w' w.heap.size (.slice sa ss.length scap) ss ∧ Below w.heap.size w w'
/-- A task set, not nil, a release pattern, servers and request patterns were drawn. -/
def GotRun (w : World) (e : Ending) (w' : World) : Prop :=
  ∃ (g cap jcap scap acap : Nat) (ja sa aa : Option Addr) (ts : List T3) (js : List J4) (ss : List A2) (als : List (List A2)), e = .returned (.tuple #[.slice (some ⟨g, 0, none⟩) ts.length cap, .slice ja js.length jcap, .slice sa ss.length scap, .slice aa als.length acap]) ∧
    ts.length ≤ 12 ∧ ts.length ≤ cap ∧ cap ≤ maxLen ∧ js.length ≤ 61 ∧ ss.length ≤ 3 ∧ als.length ≤ 4 ∧ als.length ≤ acap ∧ (∀ k, (als.getD k []).length ≤ 21) ∧
    Row w' (some ⟨g, 0, none⟩) ts ∧ OwnJ w' w.heap.size (.slice ja js.length jcap) js ∧ Own2 137 w' w.heap.size (.slice sa ss.length scap) ss ∧ RowSS w' aa als ∧ Below w.heap.size w w'

set_option maxRecDepth 100000 in
set_option maxHeartbeats 4000000 in
/-- spec.DrawRunServers. -/
theorem drawRunServers_any (a : Option Addr) (len cap : Nat) (w : World) (hb : Byts w a len cap) :
    Calls Try.prog 41 #[.slice a len cap] w (GotRun w) := by
  obtain ⟨hb, hc, hm⟩ := hb
  have HB := Lib.hid hb
  clear hb
  obtain ⟨i0, hi, hz, hsz, hby⟩ := info_parts sliceInfo
  have HI := Lib.hid (And.intro hi (And.intro hz (And.intro hsz hby)))
  clear hi hz hsz hby
  go_enter Try.func41, Try.ntmps41
  go_wp2_with fail
  refine (l20Open_any _ _ _ _ HB.out hc hm).mono ?_
  rintro e w1 ⟨rfl, hr, hb1, hs1⟩
  have HR := Lib.hid hr
  clear hr
  go_wp2_with fail
  refine (l20Set_full w.heap.size 0 24 _ HR.out (by omega)).mono ?_
  rintro e w2 ⟨a2, cap2, ts, rfl, hlen, hlc, hcm, hrow, hg, hr2, ⟨g, rfl, hgg⟩, -⟩
  have HW := Lib.hid hrow
  have HR2 := Lib.hid hr2
  have B2 : Below w.heap.size w w2 := hb1.trans (gb_to_below hg (Nat.le_refl _) hb1.size)
  have hgne : g ≠ w.heap.size := by have := HR.out.lt; omega
  clear hrow hr2
  go_wp2_with fail
  refine (l20Servers_any w.heap.size 200 16 _ HR2.out (by omega)).mono ?_
  rintro e w3 ⟨s, ss, rfl, hT, hss⟩
  have HT := Lib.hid hT
  obtain ⟨sa, scap, rfl⟩ := hT.ow.shape
  have hs2 := B2.size
  have hs3 := hT.gb.size
  have rbl : w.heap.size < w2.heap.size := hT.rl
  have B3 : Below w.heap.size w w3 := B2.trans (gb_to_below hT.gb (Nat.le_refl _) hs2)
  have HW3 := Lib.hid (HW.out.grown hT.gb hgne)
  have A0 := Lib.hid (AT.start (w := w3) hT.rd)
  clear hT HW HR2 hg hb1 HB HR
  go_wp2
  go_loopg [9, 10] ss.length (fun m s z wr => ∃ (k : Nat) (v : Value) (vs : List Value) (als : List (List A2)), m + k = ss.length ∧ z = .int .i64 k ∧ s = v ∧ als.length = k ∧ (∀ j, (als.getD j []).length ≤ 21) ∧ AT w.heap.size w3 wr (220 + 40 * k) v vs als)
  case atStart => exact ⟨0, _, [], [], by omega, rfl, rfl, rfl, fun j => by simp, A0.out⟩
  case round =>
    obtain ⟨k, v, vs, als, hk, rfl, rfl, hal, h21, hA⟩ := hrel
    have HK := Lib.hid hk
    have HA := Lib.hid hA
    have H21 := Lib.hid h21
    have HAL := Lib.hid hal
    have hkk : k ≤ ss.length := by omega
    have hal3 : als.length ≤ 3 := by omega
    obtain ⟨aa, acap, rfl⟩ := own_shape hA.ow
    clear hk hA h21 hal A0
    by_cases hlt : k < ss.length
    · have hlt' : (k : Int) < ss.length := by omega
      go_wp2_with fail
      refine (l20Arrivals_any w.heap.size (220 + 40 * k) 20 _ HA.out.rd (by omega)).mono ?_
      rintro e w4 ⟨s, o, rfl, hP, ho⟩
      have HIN := Lib.hid (HA.out.inner hP)
      obtain ⟨oa, ocap, rfl⟩ := hP.ow.shape
      clear hP
      go_wp2_with (at_builtin; refine wpList_append_at _ rfl (.tmp 24) (.tmp 27) 61 rfl w3.heap.size 105 i0 _ 1 24 Try.underlying61 HI.out.1 HI.out.2.1 HI.out.2.2.1 HI.out.2.2.2 rfl (by decide) _ als.length vs rfl (HIN.out.1.alloc _).ow ⟨w4.heap.size, 0, none⟩ 1 1 [.slice oa o.length ocap] rfl rfl (news1v _ _ _) (one1s _ _ _) (by unfold maxLen; omega) (by omega) (HIN.out.1.alloc _).gb.size (by decide) ?_; intro v' w' hown' hgrow hpl hnn)
      have HP := Lib.hid ((HIN.out.1.alloc _).push (HIN.out.2.1.below (below_box _ _)) HIN.out.2.2 hown' hgrow hpl)
      obtain ⟨a5, c5, rfl⟩ := own_shape hown'
      clear hown' hgrow hpl hnn
      go_roundg (gk - 1)
      case measure => have := HK.out; omega
      case rel => exact ⟨k + 1, _, _, als ++ [o], by have := HK.out; omega, by go_num, rfl, by have := HAL.out; simp; omega, fun j => by
        by_cases hj : j < als.length
        · rw [List.getD_eq_getElem?_getD, List.getElem?_append_left hj, ← List.getD_eq_getElem?_getD]; exact H21.out j
        · by_cases hj2 : j = als.length
          · subst hj2; simp; exact ho
          · rw [List.getD_eq_getElem?_getD, List.getElem?_eq_none (by simp; omega)]; simp, HP.out.more (by omega)⟩
    · have hlt' : ¬ (k : Int) < ss.length := by omega
      obtain rfl : k = ss.length := by omega
      clear HK
      go_wp2_with fail
      refine (odd_any w.heap.size (220 + 40 * ss.length) 16 _ HA.out.rd (by omega)).mono ?_
      rintro e w4 ⟨b, rfl, hg4, hr4⟩
      have HA4 := Lib.hid (HA.out.pick hg4 hr4)
      clear hg4 hr4 HA
      have CONT : ∀ (W : World) (q : Nat) (v' : Value) (vs' : List Value) (als' : List (List A2)), AT w.heap.size w3 W q v' vs' als' → ∃ aa acap, v' = .slice aa als'.length acap ∧ als'.length ≤ acap ∧ RowSS W aa als' ∧ Row W (some ⟨g, 0, none⟩) ts ∧ Own2 137 W w2.heap.size (.slice sa ss.length scap) ss ∧ Below w.heap.size w W := fun W q v' vs' als' hA => by
        obtain ⟨aa, acap, rfl⟩ := own_shape hA.ow
        have hrl := HT.out.rl
        refine ⟨aa, acap, rfl, ?_, hA.rowSS, HW3.out.grown hA.gb hgne, HT.out.ow.kept hA.gb hrl, B3.trans (gb_to_below hA.gb (Nat.le_refl _) (by omega))⟩
        obtain ⟨_, ⟨e, h0⟩ | ⟨g', cap', cur, e, h3, hb, hnc, hcm, hsz, hx⟩⟩ := hA.ow
        · omega
        · simp only [Value.slice.injEq] at e
          omega
      have HCONT := Lib.hid CONT
      clear CONT
      cases b with
      | false =>
        have hs4 := HA4.out.gb.size
        by_cases hv : svB ts = true
        · go_wp2_with fail
          refine (specSetValid_any _ _ _ _ (HW3.out.grown HA4.out.gb hgne) (by omega)).mono ?_
          rintro e w6 ⟨rfl, b6⟩
          have A6 := Lib.hid (HA4.out.pick (gb_of_below b6 _) (HA4.out.rd.below b6))
          have hs6 := b6.size
          clear b6
          go_wp2_with fail
          refine (l20Jobs_any w.heap.size 400 g 0 cap2 20 ts _ (A6.out.rd.mono (by omega)) (by omega) (HW3.out.grown A6.out.gb hgne) hgne hv).mono ?_
          rintro e w7 ⟨sj, o, rfl, hjt, hol, -⟩
          have HJT := Lib.hid hjt
          have A7 := Lib.hid (A6.out.pick hjt.gb hjt.rd)
          obtain ⟨ja, jcap, rfl⟩ := hjt.ow.shape
          clear hjt
          go_wp2
          (try simp only [Exit.inBlock, Exit.then])
          refine bodyPost_ret (results_tmp4 rfl _ _ _) rfl ?_
          obtain ⟨aa, acap, e1, hac, hss2, hrow, how, hbel⟩ := HCONT.out _ _ _ _ _ A7.out
          simp only [Value.slice.injEq] at e1
          obtain ⟨rfl, -, rfl⟩ := e1
          exact ⟨g, cap2, jcap, scap, _, ja, sa, _, ts, o, ss, als, rfl, hlen, hlc, hcm, hol, hss, by omega, hac, H21.out, hrow, HJT.out.ow.mono (by omega), how.mono hs2, hss2, hbel⟩
        · have hv' : svB ts = false := by simpa using hv
          go_wp2_with fail
          refine (specSetValid_any _ _ _ _ (HW3.out.grown HA4.out.gb hgne) (by omega)).mono ?_
          rintro e w6 ⟨rfl, b6⟩
          rw [hv']
          have A6 := Lib.hid ((HA4.out.pick (gb_of_below b6 _) (HA4.out.rd.below b6)).alloc (.cells #[] 47))
          have hs6 := b6.size
          clear b6 hv hv'
          go_wp2
          (try simp only [Exit.inBlock, Exit.then])
          refine bodyPost_ret (results_tmp4 rfl _ _ _) rfl ?_
          obtain ⟨aa, acap, e1, hac, hss2, hrow, how, hbel⟩ := HCONT.out _ _ _ _ _ A6.out
          simp only [Value.slice.injEq] at e1
          obtain ⟨rfl, -, rfl⟩ := e1
          exact ⟨g, cap2, 0, scap, _, some ⟨w6.heap.size, 0, none⟩, sa, _, ts, [], ss, als, rfl, hlen, hlc, hcm, by simp, hss, by omega, hac, H21.out, hrow, (OwnJ.empty w6).mono (by omega), how.mono hs2, hss2, hbel⟩
      | true =>
        go_wp2_with (at_builtin; refine wpList_append_at _ rfl (.tmp 31) (.tmp 33) 61 rfl w3.heap.size 105 i0 _ 1 24 Try.underlying61 HI.out.1 HI.out.2.1 HI.out.2.2.1 HI.out.2.2.2 rfl (by decide) _ als.length vs rfl ((HA4.out.alloc _).alloc _).ow ⟨w4.heap.size + 1, 0, none⟩ 1 1 [.slice (some ⟨w4.heap.size, 0, none⟩) 0 0] rfl rfl (by simpa using news1v (w4.alloc (.cells #[] 139)) (.slice (some ⟨w4.heap.size, 0, none⟩) 0 0) 105) (one1s _ _ _) (by unfold maxLen; omega) (by omega) ((HA4.out.alloc _).alloc _).gb.size (by decide) ?_; intro v' w' hown' hgrow hpl hnn)
        have HE := Lib.hid (((HA4.out.alloc (.cells #[] 139)).alloc (.cells #[.slice (some ⟨w4.heap.size, 0, none⟩) 0 0] 105)).push (o := []) (((Own2.empty 139 w4).mono HA4.out.gb.size).below (below_box _ _)) (fun k hk hv => by have := (HA4.out.lt k hv).2; have h2 : w4.heap.size = k := Option.some.inj hk; omega) hown' hgrow hpl)
        obtain ⟨a5, c5, rfl⟩ := own_shape hown'
        clear hown' hgrow hpl hnn
        have hs4 := HE.out.gb.size
        by_cases hv : svB ts = true
        · go_wp2_with fail
          refine (specSetValid_any _ _ _ _ (HW3.out.grown HE.out.gb hgne) (by omega)).mono ?_
          rintro e w6 ⟨rfl, b6⟩
          have A6 := Lib.hid (HE.out.pick (gb_of_below b6 _) (HE.out.rd.below b6))
          have hs6 := b6.size
          clear b6
          go_wp2_with fail
          refine (l20Jobs_any w.heap.size 400 g 0 cap2 20 ts _ (A6.out.rd.mono (by omega)) (by omega) (HW3.out.grown A6.out.gb hgne) hgne hv).mono ?_
          rintro e w7 ⟨sj, o, rfl, hjt, hol, -⟩
          have HJT := Lib.hid hjt
          have A7 := Lib.hid (A6.out.pick hjt.gb hjt.rd)
          obtain ⟨ja, jcap, rfl⟩ := hjt.ow.shape
          clear hjt
          go_wp2
          (try simp only [Exit.inBlock, Exit.then])
          refine bodyPost_ret (results_tmp4 rfl _ _ _) rfl ?_
          obtain ⟨aa, acap, e1, hac, hss2, hrow, how, hbel⟩ := HCONT.out _ _ _ _ _ A7.out
          simp only [Value.slice.injEq] at e1
          obtain ⟨rfl, -, rfl⟩ := e1
          exact ⟨g, cap2, jcap, scap, _, ja, sa, _, ts, o, ss, (als ++ [[]]), by simp only [List.length_append, List.length_cons, List.length_nil, Nat.zero_add]; rfl, hlen, hlc, hcm, hol, hss, by simp; omega, hac, fun j => by
            by_cases hj : j < als.length
            · rw [List.getD_eq_getElem?_getD, List.getElem?_append_left hj, ← List.getD_eq_getElem?_getD]; exact H21.out j
            · by_cases hj2 : j = als.length
              · subst hj2; simp
              · rw [List.getD_eq_getElem?_getD, List.getElem?_eq_none (by simp; omega)]; simp, hrow, HJT.out.ow.mono (by omega), how.mono hs2, hss2, hbel⟩
        · have hv' : svB ts = false := by simpa using hv
          go_wp2_with fail
          refine (specSetValid_any _ _ _ _ (HW3.out.grown HE.out.gb hgne) (by omega)).mono ?_
          rintro e w6 ⟨rfl, b6⟩
          rw [hv']
          have A6 := Lib.hid ((HE.out.pick (gb_of_below b6 _) (HE.out.rd.below b6)).alloc (.cells #[] 47))
          have hs6 := b6.size
          clear b6 hv hv'
          go_wp2
          (try simp only [Exit.inBlock, Exit.then])
          refine bodyPost_ret (results_tmp4 rfl _ _ _) rfl ?_
          obtain ⟨aa, acap, e1, hac, hss2, hrow, how, hbel⟩ := HCONT.out _ _ _ _ _ A6.out
          simp only [Value.slice.injEq] at e1
          obtain ⟨rfl, -, rfl⟩ := e1
          exact ⟨g, cap2, 0, scap, _, some ⟨w6.heap.size, 0, none⟩, sa, _, ts, [], ss, (als ++ [[]]), by simp only [List.length_append, List.length_cons, List.length_nil, Nat.zero_add]; rfl, hlen, hlc, hcm, by simp, hss, by simp; omega, hac, fun j => by
            by_cases hj : j < als.length
            · rw [List.getD_eq_getElem?_getD, List.getElem?_append_left hj, ← List.getD_eq_getElem?_getD]; exact H21.out j
            · by_cases hj2 : j = als.length
              · subst hj2; simp
              · rw [List.getD_eq_getElem?_getD, List.getElem?_eq_none (by simp; omega)]; simp, hrow, (OwnJ.empty w6).mono (by omega), how.mono hs2, hss2, hbel⟩

end Go.Proofs.Ytlkibehieekceaa
