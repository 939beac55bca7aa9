/- The walk of laws.FnAssignmentFeasible, for whatever code. Condition: the argument is a slice of bytes. -/
import Derived.Test.YtjmagpfnikhboaaPartImpl
import Derived.Test.YtjmagpfnikhboaaPartDraws
import Derived.Test.YtjmagpfnikhboaaDemImpl
import Derived.BigQuiet
namespace Go.Proofs.Ytjmagpfnikhboaa
open Go.RowKit Go.Deep

theorem onN_less {ts : List T3} {f g : Nat → Int} {c : Int} : ∀ {k : Nat}, (∀ j, j < k → g j = c → f j = c) → (onN ts g c k).Sublist (onN ts f c k)
  | 0, _ => List.Sublist.refl _
  | k + 1, h => by
    have ih := onN_less (ts := ts) (f := f) (g := g) (c := c) (k := k) fun j hj => h j (by omega)
    simp only [onN]
    by_cases e : g k = c
    · rw [if_pos e, if_pos (h k (by omega) e)]
      exact ih.append (List.Sublist.refl _)
    · rw [if_neg e]
      split
      · exact ih.trans (List.sublist_append_left _ _)
      · exact ih
theorem onN_lone {ts : List T3} {g : Nat → Int} {c : Int} {i : Nat} : ∀ {k : Nat}, (∀ j, j < k → (g j = c ↔ j = i)) → onN ts g c k = if i < k then [tk ts i] else []
  | 0, _ => by simp [onN]
  | k + 1, h => by
    have ih := onN_lone (ts := ts) (g := g) (c := c) (i := i) (k := k) fun j hj => h j (by omega)
    simp only [onN]
    rw [ih]
    by_cases e : k = i
    · subst e
      rw [if_pos ((h k (by omega)).2 rfl), if_neg (by omega), if_pos (by omega)]
      rfl
    · rw [if_neg (fun e' => e ((h k (by omega)).1 e'))]
      by_cases hik : i < k
      · rw [if_pos hik, if_pos (by omega)]
      · rw [if_neg hik, if_neg (by omega)]
theorem set_getD {os : List Int} {i : Nat} {x : Int} (hi : i < os.length) (j : Nat) : (os.set i x).getD j 0 = if j = i then x else os.getD j 0 := by
  rw [List.getD_eq_getElem?_getD, List.getD_eq_getElem?_getD, List.getElem?_set]
  by_cases e : j = i
  · subst e
    rw [if_pos rfl, if_pos hi, if_pos rfl]
    rfl
  · rw [if_neg (fun h => e h.symm), if_neg e]
/-- A task that moves to a processor of its own. -/
theorem af_move {ts : List T3} {N i : Nat} {os : List Int} (h : afB ts (N : Int) os = true) (hN : N < 5) (hi : i < ts.length) : afB ts ((N : Int) + 1) (os.set i (N : Int)) = true := by
  obtain ⟨h1, h2⟩ := afB_iff.1 h
  obtain ⟨v1, v2, v3, v4⟩ := avB_iff.1 h1
  have hio : i < os.length := by omega
  refine afB_iff.2 ⟨avB_iff.2 ⟨v1, by omega, by rw [List.length_set]; exact v3, fun k hk => ?_⟩, fun c hc => ?_⟩
  · rw [List.length_set] at hk
    have := v4 k hk
    rw [set_getD hio]
    split <;> omega
  · have hcN : c < N + 1 := by omega
    rw [List.length_set]
    by_cases e : c = N
    · subst e
      rw [onN_lone (i := i) fun j hj => ?_, if_pos hio]
      · exact edf_one (tk_tv (sv_all v1).1 hi)
      · rw [set_getD hio]
        have := v4 j hj
        split
        · simp_all
        · constructor
          · intro e; omega
          · intro e; contradiction
    · refine edf_sub (onN_less fun j hj => ?_) (h2 c (by omega))
      rw [set_getD hio]
      split
      · intro e2; omega
      · exact id
theorem fea_step (ts : List T3) (f : Nat → Int) (k n : Nat) : decide (Fea ts (k + 1) f n) = (decide (Fea ts k f n) && edf (onN ts f (k : Int) n)) := by
  rw [Bool.eq_iff_iff]
  simp only [Bool.and_eq_true, decide_eq_true_eq]
  constructor
  · intro h
    exact ⟨fun c hc => h c (by omega), h k (by omega)⟩
  · rintro ⟨h1, h2⟩ c hc
    by_cases e : c = k
    · subst e; exact h2
    · exact h1 c (by omega)
theorem fea_zero (ts : List T3) (f : Nat → Int) (n : Nat) : decide (Fea ts 0 f n) = true := by
  rw [decide_eq_true_eq]
  intro c hc
  omega
theorem af_of {ts : List T3} {N : Nat} {os : List Int} (h : avB ts (N : Int) os = true) : afB ts (N : Int) os = decide (Fea ts N (fun k => os.getD k 0) os.length) := by
  unfold afB
  rw [h]
  rfl

theorem af_vals (f : Nat → Int) (n : Nat) : ∀ u ∈ vals f n, u.oneCell' = true := by
  intro u hu
  simp only [vals, List.mem_map] at hu
  obtain ⟨k, _, rfl⟩ := hu
  rfl
theorem af_add (b off j : Nat) : (⟨b, off, none⟩ : Addr).add j = ⟨b, off + j, none⟩ := by
  unfold Addr.add
  split
  · simp_all
  · rfl
theorem af_news {w w' : World} {b off n : Nat} {f : Nat → Int} (h : IntF w (some ⟨b, off, none⟩) n f) (hb : Below w.heap.size w w') : ∀ (j : Nat) (u : Value), (vals f n)[j]? = some u → w'.cell? ((⟨b, off, none⟩ : Addr).add j) = some u := by
  intro j u hj
  have hjk : j < n := by have := (List.getElem?_eq_some_iff.1 hj).1; rwa [vals_len] at this
  rw [vals_at _ hjk] at hj
  simp only [Option.some.injEq] at hj
  subst hj
  obtain ⟨b', off', e, hlt, c⟩ := h j hjk
  simp only [Option.some.injEq, Addr.mk.injEq, and_true] at e
  obtain ⟨rfl, rfl⟩ := e
  rw [af_add]
  exact (hb.cell (p := ⟨b, off + j, none⟩) hlt).trans c

set_option maxRecDepth 100000 in
set_option maxHeartbeats 4000000 in
/-- laws.FnAssignmentFeasible. -/
theorem fnAssignmentFeasible_walk (a : Option Addr) (len cap : Nat) (w : World) (hb : Byts w a len cap) :
    Calls Try.prog 5 #[.slice a len cap] w fun e w' => e = .returned (.bool true) ∧ Below w.heap.size w w' := by
  have hm : cap ≤ maxLen := hb.2.2
  have hlc : len ≤ cap := hb.2.1
  unfold maxLen at hm
  have HB := Lib.hid hb
  clear hb
  by_cases hl : 1048576 < len
  · have hl' : (1048576 : Int) < len := by omega
    go_enter Try.func5, Try.ntmps5
    go_wp2
    go_ret
    exact ⟨rfl, Below.refl _ _⟩
  have hl' : ¬ (1048576 : Int) < len := by omega
  go_enter Try.func5, Try.ntmps5
  go_wp2_with fail
  refine (drawAssignmentFeasible_any _ _ _ _ HB.out).mono ?_
  rintro e w1 ⟨g, cap1, ts, c, va, ocap, os, rfl, hn, hlc1, hcm1, hcb, hos, hr1, ho1, b1⟩
  have R1 := Lib.hid hr1
  have O1 := Lib.hid ho1.intF'
  have HOC := Lib.hid (show os.length ≤ ocap ∧ ocap ≤ maxLen from by
    obtain ⟨_, _, e, _, h1, h2⟩ := ho1.intF
    simp only [Value.slice.injEq] at e
    rw [e.2.2]
    exact ⟨h1, h2⟩)
  clear hr1 ho1 HB
  go_wp2_with fail
  refine (assignmentFeasible_any _ _ _ _ ts c os _ R1.out O1.out (by omega) (by omega)).mono ?_
  rintro e w2 ⟨rfl, b2⟩
  have B2 := b1.trans (b2.mono b1.size)
  have R2 := Lib.hid (R1.out.below b2)
  have O2 := Lib.hid (O1.out.below b2)
  clear b1 b2 R1 O1
  go_wp2_with fail
  refine (specAssignmentFeasible_any _ _ _ _ ts c os _ R2.out O2.out (by omega) (by omega)).mono ?_
  rintro e w3 ⟨rfl, b3⟩
  have B3 := B2.trans (b3.mono B2.size)
  have R3 := Lib.hid (R2.out.below b3)
  have O3 := Lib.hid (O2.out.below b3)
  clear b3 R2 O2 B2
  obtain ⟨ok, hok⟩ : ∃ ok, ok = afB ts c os := ⟨_, rfl⟩
  rw [← hok]
  have HOK := Lib.hid hok
  have hne : (ok != ok) = false := by simp
  clear hok
  go_wp2_with fail
  refine (specAssignmentValid_any _ _ _ _ ts c os _ R3.out O3.out (by omega) (by omega)).mono ?_
  rintro e w4 ⟨rfl, b4⟩
  have B4 := Lib.hid (B3.trans (b4.mono B3.size))
  have R4 := Lib.hid (R3.out.below b4)
  have O4 := Lib.hid (O3.out.below b4)
  clear b4 R3 O3 B3
  cases hv : avB ts c os with
  | false =>
    obtain rfl : ok = false := by rw [HOK.out, afB, hv]; rfl
    clear hv
    go_wp2_with fail
    refine (alive_any _).mono ?_
    rintro e w6 ⟨rfl, b6⟩
    go_wp2
    go_ret
    exact ⟨rfl, B4.out.trans (b6.mono B4.out.size)⟩
  | true =>
    have hav := avB_iff.1 hv
    have hl5 : ts.length ≤ 5 := (sv_all hav.1).2
    obtain ⟨N, hN⟩ : ∃ N : Nat, c = (N : Int) := ⟨c.toNat, by omega⟩
    subst hN
    have hN5 : N ≤ 5 := by omega
    have hol := hav.2.2.1
    obtain ⟨f, hf⟩ : ∃ f : Nat → Int, f = fun k => os.getD k 0 := ⟨_, rfl⟩
    have HAF := Lib.hid (show ok = decide (Fea ts N f os.length) by rw [HOK.out, af_of hv, hf])
    have HCT := Lib.hid (fun k (hk : k < N) => show ctL ts (N : Int) os (k : Int) = onN ts f (k : Int) os.length by
      unfold ctL
      rw [if_pos ⟨hv, by omega, by omega⟩, hf])
    have HOL := Lib.hid hol
    clear hv hav hf hol
    go_wp2
    go_loopg [7, 8] N (fun q x z wr => ∃ k : Nat, q + k = N ∧ x = .bool (decide (Fea ts k f os.length)) ∧ z = .int .i64 k ∧ Below w4.heap.size w4 wr)
    case atStart => exact ⟨0, by omega, by rw [fea_zero], rfl, Below.refl _ _⟩
    case round =>
      obtain ⟨k, hq, rfl, rfl, B⟩ := hrel
      have HQ := Lib.hid hq
      have HBK := Lib.hid B
      have hkN : k ≤ N := by omega
      obtain ⟨GG, hGG⟩ : ∃ GG, GG = gk := ⟨_, rfl⟩
      have HGG := Lib.hid hGG
      clear hq B hGG
      by_cases hlt : k < N
      · have hk1 : (k : Int) < N := by omega
        have HST := Lib.hid (fea_step ts f k os.length)
        obtain ⟨al, hal⟩ : ∃ al, al = decide (Fea ts k f os.length) := ⟨_, rfl⟩
        rw [← hal] at HST ⊢
        clear hal
        cases al with
        | false =>
          go_wp2
          go_roundg (gk - 1)
          case measure => have := HQ.out; omega
          case rel => exact ⟨k + 1, by have := HQ.out; omega, by rw [HST.out]; rfl, by go_num, HBK.out⟩
        | true =>
          go_wp2_with fail
          refine (coreTasks_any _ _ _ _ ts (N : Int) os (k : Int) _ (R4.out.below HBK.out) (O4.out.below HBK.out) (by omega) (by omega)).mono ?_
          rintro e w6 ⟨v, rfl, ho6, b6⟩
          rw [HCT.out k hlt] at ho6
          have hone := onN_len ts f (k : Int) os.length
          obtain ⟨on, hon⟩ : ∃ on, on = onN ts f (k : Int) os.length := ⟨_, rfl⟩
          rw [← hon] at ho6 hone HST
          clear hon
          obtain ⟨oa, oc, rfl, hor, -, -⟩ := ho6.row
          have HOR := Lib.hid hor
          have B6 := Lib.hid (HBK.out.trans (b6.mono HBK.out.size))
          clear ho6 hor b6
          go_wp2_with fail
          refine (edfFeasible_any _ _ on _ HOR.out (by omega)).mono ?_
          rintro e w7 ⟨rfl, b7⟩
          have B7 := Lib.hid (B6.out.trans (b7.mono B6.out.size))
          clear b7
          go_wp2
          go_roundg (gk - 1)
          case measure => have := HQ.out; omega
          case rel => exact ⟨k + 1, by have := HQ.out; omega, by rw [HST.out]; rfl, by go_num, B7.out⟩
      · obtain rfl : k = N := by omega
        rw [← HAF.out]
        cases ok with
        | false =>
          go_wp2
          go_ret
          exact ⟨rfl, B4.out.trans (HBK.out.mono B4.out.size)⟩
        | true =>
          by_cases h5 : k < 5
          · have h5' : (k : Int) < 5 := by omega
            by_cases h0 : 0 < ts.length
            · have h0' : (0 : Int) < ts.length := by omega
              obtain ⟨m, hmm⟩ : ∃ m, m = len % ts.length := ⟨_, rfl⟩
              have hmb : m < ts.length := by rw [hmm]; exact Nat.mod_lt _ (by omega)
              have htm : (len : Int).tmod (ts.length : Int) = (m : Int) := by rw [hmm]; rfl
              have hne0 : ((ts.length : Int) == 0) = false := beq_eq_false_iff_ne.2 (by omega)
              have hmo : m < os.length := by have := HOL.out; omega
              have hc0 : (0 : Int) ≤ m := by omega
              have hc1 : (m : Int) < os.length := by omega
              have hw1 : IntKind.i64.wrap ((k : Int) + 1) = (k : Int) + 1 := IntWalk.i64_in _ (by omega)
              have HMV := Lib.hid (af_move (i := m) HOK.out.symm h5 hmb)
              have IW := Lib.hid (O4.out.below HBK.out)
              obtain ⟨og, oo, ea, -, -⟩ := IW.out 0 (by omega)
              subst ea
              obtain ⟨i0, hi, hz, hsz, hby⟩ := info_parts intInfo
              have HI := Lib.hid (And.intro hi (And.intro hz (And.intro hsz hby)))
              clear hi hz hsz hby hmm
              have NEWS := Lib.hid (show ∀ o : Obj, ∀ (j : Nat) (u : Value), (vals (fun k => os.getD k 0) os.length)[j]? = some u → (wr.alloc o).cell? ((⟨og, oo, none⟩ : Addr).add j) = some u from fun o j u hj =>
                 af_news (show IntF wr (some ⟨og, oo, none⟩) os.length (fun k => os.getD k 0) from IW.out) (below_box wr o) j u hj)
              go_wp2_with (at_builtin; refine wpList_append_own _ rfl (.tmp 63) (.tmp 64) 24 rfl wr.heap.size 3 i0 _ 1 8 Try.underlying24 HI.out.1 HI.out.2.1 HI.out.2.2.1 HI.out.2.2.2 rfl (by decide) _ 0 (vals (fun k => os.getD k 0) 0) rfl (OwnI.empty wr _) ⟨og, oo, none⟩ os.length ocap (vals (fun k => os.getD k 0) os.length) rfl (by rw [vals_len, Nat.mul_one]) (NEWS.out _) (af_vals _ _) (by unfold maxLen; omega) (by omega) (below_box _ _).size ?_; intro v' w' hown' hgrow hnil)
              have BX : Below wr.heap.size wr w' := (below_box wr _).grown hgrow (below_box wr _).size (fun k hk => (OwnI.empty wr (fun _ => 0)).from k hk)
              have O3 := (show OwnI w' wr.heap.size v' os.length (fun k => os.getD k 0) by unfold OwnI; simpa [vals] using hown')
              obtain ⟨g', c', e, hg1, -, hcc, -, -⟩ := O3.at (by omega)
              subst e
              have z0 := (O3.cellAt (k := m) hmo).1
              have z1 := (O3.cellAt (k := m) hmo).2.1
              have OS := Lib.hid (show IntF (w'.setCell ⟨g', m, none⟩ (.int .i64 (k : Int))) (some ⟨g', 0, none⟩) (os.set m (k : Int)).length fun j => (os.set m (k : Int)).getD j 0 by rw [List.length_set]; exact IntF.congr (O3.set hmo (k : Int)).intF' fun j _ => (set_getD hmo j).symm)
              have BX1 := Lib.hid (BX.setCell (p := ⟨g', m, none⟩) hg1 (.int .i64 (k : Int)))
              clear hown' hgrow hnil O3 BX
              have hc := assignmentFeasible_any (some ⟨g, 0, none⟩) (some ⟨g', 0, none⟩) cap1 c' ts ((k : Int) + 1) (os.set m (k : Int)) _ ((R4.out.below HBK.out).below BX1.out) OS.out (by omega) (by rw [List.length_set]; omega)
              rw [List.length_set, HMV.out] at hc
              go_simp
              go_wp2_with fail
              refine hc.mono ?_
              rintro e w8 ⟨rfl, b8⟩
              have B8 := Lib.hid (B4.out.trans ((HBK.out.trans ((BX1.out.trans (b8.mono BX1.out.size)).mono HBK.out.size)).mono B4.out.size))
              clear b8 hc
              go_wp2
              go_ret
              exact ⟨rfl, B8.out⟩
            · have h0' : ¬ (0 : Int) < ts.length := by omega
              go_wp2
              go_ret
              exact ⟨rfl, B4.out.trans (HBK.out.mono B4.out.size)⟩
          · have h5' : ¬ (k : Int) < 5 := by omega
            go_wp2
            go_ret
            exact ⟨rfl, B4.out.trans (HBK.out.mono B4.out.size)⟩
end Go.Proofs.Ytjmagpfnikhboaa
