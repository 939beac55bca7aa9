/- The walk of laws.FnPartition, for whatever code. Condition: both arguments are slices of bytes. -/
import Derived.Test.YtjmagpfnikhboaaPartImpl
import Derived.Test.YtjmagpfnikhboaaPartDraws
import Derived.Test.YtjmagpfnikhboaaSame
import Derived.BigQuiet
namespace Go.Proofs.Ytjmagpfnikhboaa
open Go.RowKit Go.Deep

theorem pv_app (l : List Int) (x : Int) : vals (fun k => (l ++ [x]).getD k 0) (l.length + 1) = vals (fun k => l.getD k 0) l.length ++ [.int .i64 x] := by
  rw [vals_succ]
  congr 1
  · simp only [vals]
    refine List.map_congr_left fun k hk => ?_
    have hk' : k < l.length := List.mem_range.1 hk
    simp [List.getD_eq_getElem?_getD, List.getElem?_append_left hk']
  · simp [List.getD_eq_getElem?_getD]
theorem pv_in {o : List Int} {y : Int} {N : Nat} (h : ∀ k, k < o.length → 0 ≤ o.getD k 0 ∧ o.getD k 0 < N) (h0 : 0 ≤ y) (h1 : y < N) : ∀ k, k < (o ++ [y]).length → 0 ≤ (o ++ [y]).getD k 0 ∧ (o ++ [y]).getD k 0 < N := by
  intro k hk
  rw [List.length_append, List.length_singleton] at hk
  by_cases e : k < o.length
  · have e2 : (o ++ [y]).getD k 0 = o.getD k 0 := by simp [List.getD_eq_getElem?_getD, List.getElem?_append_left e]
    rw [e2]
    exact h k e
  · obtain rfl : k = o.length := by omega
    have e2 : (o ++ [y]).getD o.length 0 = y := by simp [List.getD_eq_getElem?_getD]
    rw [e2]
    exact ⟨h0, h1⟩
def zsP (r : List Nat) : List Int := r.map fun x => ((x : Nat) : Int)
theorem zsP_len (r : List Nat) : (zsP r).length = r.length := by simp [zsP]
theorem zsP_get (r : List Nat) : (fun k => (zsP r).getD k 0) = nz r := by
  funext k
  unfold zsP nz
  rw [List.getD_eq_getElem?_getD, List.getD_eq_getElem?_getD, List.getElem?_map]
  cases r[k]? <;> rfl
theorem zsP_af {ts : List T3} {N : Nat} {r : List Nat} (hv : svB ts = true) (hN : 1 ≤ N ∧ N ≤ 5) (h : part ts N = some r) : afB ts (N : Int) (zsP r) = true := by
  obtain ⟨h1, h2, h3⟩ := part_some h
  refine afB_iff.2 ⟨avB_iff.2 ⟨hv, by omega, by rw [zsP_len]; exact h1, fun k hk => ?_⟩, ?_⟩
  · rw [zsP_len] at hk
    have := h2 k (by omega)
    have e : (zsP r).getD k 0 = nz r k := congrFun (zsP_get r) k
    rw [e]
    unfold nz
    omega
  · rw [zsP_get, zsP_len, h1]
    exact h3
theorem pr_no {ts : List T3} {c : Int} (h : ¬ (svB ts = true ∧ 1 ≤ c ∧ c ≤ 5)) : prO ts c = none ∧ ffO ts c = none := ⟨if_neg h, if_neg h⟩
theorem pr_bd (ts : List T3) (c : Int) : ((prO ts c).getD []).length ≤ ts.length := by
  unfold prO
  split
  · cases h : part ts c.toNat with
    | none => exact Nat.zero_le _
    | some gs => exact Nat.le_of_eq (part_some h).1
  · exact Nat.zero_le _
theorem pf_bd (ts : List T3) (c : Int) : ((ffO ts c).getD []).length ≤ ts.length := by
  unfold ffO
  split
  · cases h : ff ts c.toNat with
    | none => exact Nat.zero_le _
    | some gs => exact Nat.le_of_eq (ffN_some h).1
  · exact Nat.zero_le _

set_option maxRecDepth 100000 in
set_option maxHeartbeats 4000000 in
/-- laws.FnPartition. -/
theorem fnPartition_walk (a0 : Option Addr) (len0 cap0 : Nat) (a1 : Option Addr) (len1 cap1 : Nat) (w : World) (hb0 : Byts w a0 len0 cap0) (hb1 : Byts w a1 len1 cap1) :
    Calls Try.prog 7 #[.slice a0 len0 cap0, .slice a1 len1 cap1] w fun e w' => e = .returned (.bool true) ∧ Below w.heap.size w w' := by
  have hm0 : cap0 ≤ maxLen := hb0.2.2
  have hlc0 : len0 ≤ cap0 := hb0.2.1
  have hm1 : cap1 ≤ maxLen := hb1.2.2
  have hlc1 : len1 ≤ cap1 := hb1.2.1
  unfold maxLen at hm0 hm1
  have HB0 := Lib.hid hb0
  have HB1 := Lib.hid hb1
  clear hb0 hb1
  by_cases hl : 1048576 < len0
  · have hl' : (1048576 : Int) < len0 := by omega
    go_enter Try.func7, Try.ntmps7
    go_wp2
    go_ret
    exact ⟨rfl, Below.refl _ _⟩
  have hl' : ¬ (1048576 : Int) < len0 := by omega
  by_cases hk : 1048576 < len1
  · have hk' : (1048576 : Int) < len1 := by omega
    go_enter Try.func7, Try.ntmps7
    go_wp2
    go_ret
    exact ⟨rfl, Below.refl _ _⟩
  have hk' : ¬ (1048576 : Int) < len1 := by omega
  go_enter Try.func7, Try.ntmps7
  go_wp2_with fail
  refine (drawPartition_any _ _ _ _ HB0.out).mono ?_
  rintro e w1 ⟨g, cap2, ts, c, rfl, hn, hlc2, hcm2, hcb, hr1, b1⟩
  have R1 := Lib.hid hr1
  clear hr1 HB0
  have hpb := pr_bd ts c
  have hfb := pf_bd ts c
  go_wp2_with fail
  refine (partition_any _ _ ts c _ R1.out (by omega)).mono ?_
  rintro e w2 ⟨⟨v, rfl, ho2⟩, b2⟩
  obtain ⟨sa, sc, rfl⟩ := own_shape ho2
  have B2 := b1.trans (b2.mono b1.size)
  have R2 := Lib.hid (R1.out.below b2)
  have O2 := Lib.hid ho2.intF'
  clear b1 b2 R1 ho2
  go_wp2_with fail
  refine (specPartition_any _ _ ts c _ R2.out (by omega)).mono ?_
  rintro e w3 ⟨⟨ta, tc, rfl, ho3⟩, b3⟩
  have B3 := B2.trans (b3.mono B2.size)
  have R3 := Lib.hid (R2.out.below b3)
  have O3 := Lib.hid (O2.out.below b3)
  have Q3 := Lib.hid ho3
  clear b3 R2 O2 B2 ho3
  obtain ⟨P, hP⟩ : ∃ P, P = prO ts c := ⟨_, rfl⟩
  rw [← hP] at O3 Q3 hpb ⊢
  obtain ⟨pb, hpB⟩ : ∃ pb, pb = P.isSome := ⟨_, rfl⟩
  rw [← hpB]
  have HP := Lib.hid hP
  have HPB := Lib.hid hpB
  clear hP hpB
  go_wp2_with fail
  refine (sameInts_same _ _ _ _ _ _ _ O3.out Q3.out (by omega)).mono ?_
  rintro e w4 ⟨rfl, m4, hw4⟩
  have b4 : Below w3.heap.size w3 w4 := by rw [hw4]; exact below_drewN _ _
  have B4 := Lib.hid (B3.trans (b4.mono B3.size))
  have R4 := Lib.hid (R3.out.below b4)
  have O4 := Lib.hid (O3.out.below b4)
  clear hw4 b4 R3 O3 Q3 B3
  have hne : (pb != pb) = false := by simp
  go_wp2_with fail
  refine (firstFit_any _ _ ts c _ R4.out (by omega)).mono ?_
  rintro e w5 ⟨⟨v, rfl, ho5⟩, b5⟩
  obtain ⟨fa, fc, rfl⟩ := own_shape ho5
  have B5 := Lib.hid (B4.out.trans (b5.mono B4.out.size))
  have R5 := Lib.hid (R4.out.below b5)
  have O5 := Lib.hid (O4.out.below b5)
  have F5 := Lib.hid ho5.intF'
  obtain ⟨F, hF⟩ : ∃ F, F = ffO ts c := ⟨_, rfl⟩
  rw [← hF] at F5 hfb ⊢
  obtain ⟨fb, hfB⟩ : ∃ fb, fb = F.isSome := ⟨_, rfl⟩
  rw [← hfB]
  have HF := Lib.hid hF
  have HFB := Lib.hid hfB
  clear hF hfB b5 R4 O4 B4 ho5
  go_wp2_with fail
  refine (specSetValid_any _ _ ts _ R5.out (by omega)).mono ?_
  rintro e w6 ⟨rfl, b6⟩
  have B6 := Lib.hid (B5.out.trans (b6.mono B5.out.size))
  have R6 := Lib.hid (R5.out.below b6)
  have O6 := Lib.hid (O5.out.below b6)
  have F6 := Lib.hid (F5.out.below b6)
  clear b6 R5 O5 F5 B5
  by_cases hcond : svB ts = true ∧ 1 ≤ c ∧ c ≤ 5
  · obtain ⟨hv, hc1, hc5⟩ := hcond
    have HV := Lib.hid hv
    have hl5 : ts.length ≤ 5 := (sv_all hv).2
    rw [hv]
    obtain ⟨N, hN⟩ : ∃ N : Nat, c = (N : Int) := ⟨c.toNat, by omega⟩
    subst hN
    have hPP := Lib.hid (show P = part ts N by rw [HP.out]; exact if_pos ⟨hv, hc1, hc5⟩)
    have hFF := Lib.hid (show F = ff ts N by rw [HF.out]; exact if_pos ⟨hv, hc1, hc5⟩)
    have hc1' : ¬ (N : Int) < 1 := by omega
    have hc5' : ¬ (5 : Int) < N := by omega
    have hne0 : ((N : Int) == 0) = false := beq_eq_false_iff_ne.2 (by omega)
    have hN1 : 1 ≤ N := by omega
    have hN5 : N ≤ 5 := by omega
    obtain ⟨i0, hi, hz, hsz, hby⟩ := info_parts intInfo
    have HI := Lib.hid (And.intro hi (And.intro hz (And.intro hsz hby)))
    clear hi hz hsz hby hv
    obtain ⟨w7, hw7⟩ : ∃ w7, w7 = w6 := ⟨_, rfl⟩
    subst hw7
    go_wp2
    go_loopg [13, 14] ts.length (fun q v z wr => ∃ o : List Int, q + o.length = ts.length ∧ z = .int .i64 o.length ∧ OwnI wr w7.heap.size v o.length (fun j => o.getD j 0) ∧ (∀ k, k < o.length → 0 ≤ o.getD k 0 ∧ o.getD k 0 < N) ∧ Below w7.heap.size w7 wr)
    case atStart => exact ⟨[], by simp, rfl, OwnI.empty w7 _, fun k hk => absurd hk (by simp), below_box _ _⟩
    case round =>
      obtain ⟨o, hq, rfl, ho, hok, hB⟩ := hrel
      have HQ := Lib.hid hq
      have HO := Lib.hid ho
      have HOK := Lib.hid hok
      have HB := Lib.hid hB
      have hol : o.length ≤ ts.length := by omega
      have hol5 : o.length ≤ 5 := by omega
      clear hq ho hok hB
      by_cases hlt : o.length < ts.length
      · have hi0 : (0 : Int) ≤ o.length := by omega
        have hi1 : (o.length : Int) < ts.length := by omega
        by_cases hm : o.length < len1
        · have hm' : (o.length : Int) < len1 := by omega
          obtain ⟨b, off, ea, hbb, z, hz, g0⟩ := HB1.out.1 o.length hm
          subst ea
          have g1 : wr.cell? ⟨b, off + o.length, none⟩ = some (.int .u8 z) := (World.cell?_of_block (w := w) (a := ⟨b, off + o.length, none⟩) ((B6.out.trans (HB.out.mono B6.out.size)).block b hbb)).trans g0
          obtain ⟨y, hy⟩ : ∃ y : Int, y = ((z % N : Nat) : Int) := ⟨_, rfl⟩
          have htm : (z : Int).tmod (N : Int) = y := by rw [hy]; rfl
          have hy0 : 0 ≤ y := by rw [hy]; omega
          have hy1 : y < N := by rw [hy]; have := Nat.mod_lt z (show 0 < N by omega); omega
          clear hy g0
          go_wp2_with (at_builtin; refine wpList_append_own _ rfl (.tmp 94) (.tmp 98) 24 rfl w7.heap.size 3 i0 _ 1 8 Try.underlying24 HI.out.1 HI.out.2.1 HI.out.2.2.1 HI.out.2.2.2 rfl (by decide) _ o.length (vals (fun j => o.getD j 0) o.length) rfl (World.ownsRow.alloc HO.out _) ⟨wr.heap.size, 0, none⟩ 1 1 [.int .i64 y] rfl rfl (news1 _ _ _) (one1 _) (by unfold maxLen; omega) (by omega) (Nat.le_trans HB.out.size (below_box _ _).size) ?_; intro v' w' hown' hgrow hnil)
          have B1 := Lib.hid (show Below w7.heap.size w7 w' from (HB.out.trans ((below_box wr _).mono HB.out.size)).grown hgrow (Nat.le_trans HB.out.size (below_box _ _).size) (fun k hk => OwnI.from HO.out k hk))
          have HO1 := Lib.hid (show OwnI w' w7.heap.size v' (o ++ [y]).length (fun j => (o ++ [y]).getD j 0) by unfold OwnI; rw [List.length_append, List.length_singleton, pv_app]; exact hown')
          clear hown' hgrow hnil
          go_roundg (gk - 1)
          case measure => have := HQ.out; omega
          case rel => exact ⟨o ++ [y], by have := HQ.out; rw [List.length_append]; simp; omega, by rw [List.length_append]; go_num, HO1.out, pv_in HOK.out hy0 hy1, B1.out⟩
        · have hm' : ¬ (o.length : Int) < len1 := by omega
          obtain ⟨y, hy⟩ : ∃ y : Int, y = ((o.length % N : Nat) : Int) := ⟨_, rfl⟩
          have htm : (o.length : Int).tmod (N : Int) = y := by rw [hy]; rfl
          have hy0 : 0 ≤ y := by rw [hy]; omega
          have hy1 : y < N := by rw [hy]; have := Nat.mod_lt o.length (show 0 < N by omega); omega
          clear hy
          go_wp2_with (at_builtin; refine wpList_append_own _ rfl (.tmp 94) (.tmp 98) 24 rfl w7.heap.size 3 i0 _ 1 8 Try.underlying24 HI.out.1 HI.out.2.1 HI.out.2.2.1 HI.out.2.2.2 rfl (by decide) _ o.length (vals (fun j => o.getD j 0) o.length) rfl (World.ownsRow.alloc HO.out _) ⟨wr.heap.size, 0, none⟩ 1 1 [.int .i64 y] rfl rfl (news1 _ _ _) (one1 _) (by unfold maxLen; omega) (by omega) (Nat.le_trans HB.out.size (below_box _ _).size) ?_; intro v' w' hown' hgrow hnil)
          have B1 := Lib.hid (show Below w7.heap.size w7 w' from (HB.out.trans ((below_box wr _).mono HB.out.size)).grown hgrow (Nat.le_trans HB.out.size (below_box _ _).size) (fun k hk => OwnI.from HO.out k hk))
          have HO1 := Lib.hid (show OwnI w' w7.heap.size v' (o ++ [y]).length (fun j => (o ++ [y]).getD j 0) by unfold OwnI; rw [List.length_append, List.length_singleton, pv_app]; exact hown')
          clear hown' hgrow hnil
          go_roundg (gk - 1)
          case measure => have := HQ.out; omega
          case rel => exact ⟨o ++ [y], by have := HQ.out; rw [List.length_append]; simp; omega, by rw [List.length_append]; go_num, HO1.out, pv_in HOK.out hy0 hy1, B1.out⟩
      · have hoe : o.length = ts.length := by omega
        have hge : ¬ (o.length : Int) < ts.length := by omega
        obtain ⟨va, vc, hvs⟩ := own_shape HO.out
        subst hvs
        have RW := Lib.hid (R6.out.below HB.out)
        have OW := Lib.hid (O6.out.below HB.out)
        have FW := Lib.hid (F6.out.below HB.out)
        have BW := Lib.hid (B6.out.trans (HB.out.mono B6.out.size))
        clear R6 O6 F6 B6
        cases P with
        | none =>
          obtain rfl : pb = false := HPB.out
          have hfn : F = none := by
            cases hF : F with
            | none => rfl
            | some a2 =>
              obtain ⟨r, e, _⟩ := ff_part HV.out (show ff ts N = some a2 by rw [← hFF.out, hF])
              rw [← hPP.out] at e
              exact absurd e (by simp)
          obtain rfl : fb = false := by rw [HFB.out, hfn]; rfl
          have HA := Lib.hid (show afB ts (N : Int) o = false by
            cases h : afB ts (N : Int) o with
            | false => rfl
            | true =>
              obtain ⟨_, h2⟩ := afB_iff.1 h
              rw [hoe] at h2
              obtain ⟨r, e⟩ := part_found (ts := ts) (n := N) (f := fun k => o.getD k 0) (fun k hk => HOK.out k (by omega)) h2
              rw [← hPP.out] at e
              exact absurd e (by simp))
          clear hfn
          have hc := assignmentFeasible_any (some ⟨g, 0, none⟩) va cap2 vc ts (N : Int) o wr RW.out (OwnI.intF' HO.out) (by omega) (by omega)
          rw [HA.out, hoe] at hc
          have HC := Lib.hid hc
          clear hc
          go_wp2_with fail
          refine HC.out.mono ?_
          rintro e w8 ⟨rfl, b8⟩
          have B8 := Lib.hid (BW.out.trans (b8.mono BW.out.size))
          clear b8
          go_wp2
          go_ret
          exact ⟨rfl, B8.out⟩
        | some r =>
          obtain rfl : pb = true := HPB.out
          have hpr := hPP.out.symm
          obtain ⟨r1, r2, r3⟩ := part_some hpr
          have HAF := Lib.hid (zsP_af HV.out ⟨hN1, hN5⟩ hpr)
          have HRL := Lib.hid r1
          have HFIN := Lib.hid (fun (W : World) (hW : Below wr.heap.size wr W) => show Calls Try.prog 22 #[.slice (some ⟨g, 0, none⟩) ts.length cap2, .int .i64 N, .slice sa r.length sc] W fun e w' => e = .returned (.bool true) ∧ Below W.heap.size W w' from by
            have h := assignmentFeasible_any (some ⟨g, 0, none⟩) sa cap2 sc ts (N : Int) (zsP r) W (RW.out.below hW) (by rw [zsP_len, zsP_get]; exact OW.out.below hW) (by omega) (by rw [zsP_len]; omega)
            rw [zsP_len, HAF.out] at h
            exact h)
          simp only [Option.getD_some]
          clear hpr r1 r2 r3
          cases F with
          | none =>
            obtain rfl : fb = false := HFB.out
            go_wp2_with fail
            refine (HFIN.out _ (Below.refl _ _)).mono ?_
            rintro e w8 ⟨rfl, b8⟩
            have B8 := Lib.hid (BW.out.trans (b8.mono BW.out.size))
            clear b8
            go_wp2
            go_ret
            exact ⟨rfl, B8.out⟩
          | some gs =>
            obtain rfl : fb = true := HFB.out
            have hrg : gs.length = r.length ∧ LexLe r gs := by
              obtain ⟨r', e, e1, e2⟩ := ff_part HV.out hFF.out.symm
              rw [← hPP.out] at e
              obtain rfl := Option.some.inj e
              exact ⟨e1.symm, e2⟩
            have HLX := Lib.hid hrg.2
            have HGR := Lib.hid hrg.1
            have hg5 : gs.length ≤ 5 := by have := HRL.out; omega
            simp only [Option.getD_some]
            clear hrg hfb hpb
            go_wp2
            go_loopg [16] gs.length (fun q z wl => ∃ i : Nat, q + i = gs.length ∧ z = .int .i64 i ∧ (∀ j, j < i → r.getD j 0 = gs.getD j 0) ∧ Below wr.heap.size wr wl)
            case atStart => exact ⟨0, by omega, rfl, fun j hj => absurd hj (by omega), Below.refl _ _⟩
            case round =>
              obtain ⟨i, hq, rfl, hsame, hBl⟩ := hrel
              have HQ := Lib.hid hq
              have HS := Lib.hid hsame
              have HBL := Lib.hid hBl
              have hil : i ≤ gs.length := by omega
              clear hq hsame hBl
              by_cases hlt : i < gs.length
              · have hi0 : (0 : Int) ≤ i := by omega
                have hi1 : (i : Int) < gs.length := by omega
                have hir : i < r.length := by have := HGR.out; omega
                have hi2 : (i : Int) < r.length := by omega
                obtain ⟨b, off, ea, _, x0⟩ := (OW.out.below HBL.out) i hir
                obtain ⟨b', off', ea', _, x1⟩ := (FW.out.below HBL.out) i hlt
                subst ea ea'
                obtain ⟨X, hX⟩ : ∃ X, X = r.getD i 0 := ⟨_, rfl⟩
                obtain ⟨Y, hY⟩ : ∃ Y, Y = gs.getD i 0 := ⟨_, rfl⟩
                have hXY : X ≤ Y := by rw [hX, hY]; exact HLX.out i HS.out
                have g0 := x0.trans (show some (Value.int .i64 (nz r i)) = some (.int .i64 (X : Int)) by rw [hX]; rfl)
                have g1 := x1.trans (show some (Value.int .i64 (nz gs i)) = some (.int .i64 (Y : Int)) by rw [hY]; rfl)
                have HX := Lib.hid hX
                have HY := Lib.hid hY
                clear hX hY x0 x1
                by_cases e : X = Y
                · subst e
                  have hb : ((X : Int) != (X : Int)) = false := by simp
                  go_wp2
                  go_quiet (fail)
                  go_wp2
                  go_roundg (gk - 1)
                  case measure => have := HQ.out; omega
                  case rel => exact ⟨i + 1, by have := HQ.out; omega, by go_num, fun j hj => by
                    by_cases ej : j = i
                    · rw [ej, ← HX.out, ← HY.out]
                    · exact HS.out j (by omega), HBL.out.trans ((below_drewN _ _).mono HBL.out.size)⟩
                · have hb : ((X : Int) != (Y : Int)) = true := by simp; omega
                  have hgt : ¬ (Y : Int) < X := by omega
                  go_wp2
                  go_quiet (fail)
                  go_wp2
                  go_quiet (fail)
                  go_wp2_with fail
                  refine (HFIN.out _ (below_drewN' HBL.out _)).mono ?_
                  rintro e w8 ⟨rfl, b8⟩
                  have B8 := Lib.hid (BW.out.trans (((below_drewN' HBL.out _).trans (b8.mono (below_drewN' HBL.out _).size)).mono BW.out.size))
                  clear b8
                  go_wp2
                  go_ret
                  exact ⟨rfl, B8.out⟩
              · obtain rfl : i = gs.length := by omega
                go_wp2_with fail
                refine (HFIN.out _ HBL.out).mono ?_
                rintro e w8 ⟨rfl, b8⟩
                have B8 := Lib.hid (BW.out.trans ((HBL.out.trans (b8.mono (HBL.out).size)).mono BW.out.size))
                clear b8
                go_wp2
                go_ret
                exact ⟨rfl, B8.out⟩
  · obtain ⟨hpn, hfn⟩ := pr_no hcond
    obtain rfl : pb = false := by rw [HPB.out, HP.out, hpn]; rfl
    obtain rfl : fb = false := by rw [HFB.out, HF.out, hfn]; rfl
    clear hpn hfn
    cases hsv : svB ts with
    | false =>
      clear hcond hsv
      go_wp2_with fail
      refine (alive_any _).mono ?_
      rintro e w7 ⟨rfl, b7⟩
      go_wp2
      go_ret
      exact ⟨rfl, B6.out.trans (b7.mono B6.out.size)⟩
    | true =>
      by_cases h1 : c < 1
      · clear hcond hsv
        go_wp2_with fail
        refine (alive_any _).mono ?_
        rintro e w7 ⟨rfl, b7⟩
        go_wp2
        go_ret
        exact ⟨rfl, B6.out.trans (b7.mono B6.out.size)⟩
      · have h5 : 5 < c := by
          rcases Int.lt_or_le 5 c with h | h
          · exact h
          · exact absurd ⟨hsv, by omega, h⟩ hcond
        clear hcond hsv
        go_wp2_with fail
        refine (alive_any _).mono ?_
        rintro e w7 ⟨rfl, b7⟩
        go_wp2
        go_ret
        exact ⟨rfl, B6.out.trans (b7.mono B6.out.size)⟩
end Go.Proofs.Ytjmagpfnikhboaa
