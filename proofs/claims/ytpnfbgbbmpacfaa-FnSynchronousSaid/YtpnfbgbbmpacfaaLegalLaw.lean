/- The walk of laws.FnJobsLegal, for whatever code. Condition: the argument is a slice of bytes. -/
import Derived.Test.YtpnfbgbbmpacfaaEdfImpl
import Derived.Test.YtpnfbgbbmpacfaaDrawEdf
import Derived.Test.YtpnfbgbbmpacfaaPastLaw
namespace Go.Proofs.Ytpnfbgbbmpacfaa
open Go.RowKit Go.Deep

theorem own_emptyJ (w : World) : (w.alloc (.cells #[] 30)).ownsRow w.heap.size 30 4 (.slice (some ⟨w.heap.size, 0, none⟩) 0 0) 0 [] :=
  ⟨rfl, .inr ⟨w.heap.size, 0, #[], rfl, Nat.le_refl _, blk_alloc_new _ _, Nat.le_refl _, by simp [maxLen], rfl, rfl⟩⟩
theorem vals_one (f : Nat → Int) (n : Nat) : ∀ u ∈ vals f n, u.oneCell' = true := by
  intro u hu
  simp only [vals, List.mem_map] at hu
  obtain ⟨k, _, rfl⟩ := hu
  rfl
theorem OwnJ.copied {w : World} {base : Nat} {v : Value} {js : List J4} (h : w.ownsRow base 30 4 v (0 + js.length) ([] ++ vals (fJ js) (js.length * 4))) : OwnJ w base v js := by
  rw [Nat.zero_add, List.nil_append] at h
  exact h
theorem leg_ids {ts : List T3} {js : List J4} (h : legB ts js = true) {k : Nat} (hk : k < js.length) : (jb js k).1 = (jid js k : Nat) ∧ (jb js k).2.1 = (jrel js k : Nat) ∧ jid js k < ts.length ∧ jrel js k ≤ 119 := by
  obtain ⟨hv, _, h1⟩ := legB_iff.1 h
  have h2 := h1 k hk
  have h3 := h2.nat (sv_all hv).1
  obtain ⟨⟨a1, _⟩, ⟨b1, _⟩, _⟩ := h2
  simp only [jid, jrel] at *
  omega

set_option maxRecDepth 100000 in
set_option maxHeartbeats 8000000 in
/-- laws.FnJobsLegal. -/
theorem fnJobsLegal_walk (a : Option Addr) (len cap : Nat) (w : World) (hb : Byts w a len cap) :
    Calls Try.prog 3 #[.slice a len cap] w fun e w' => e = .returned (.bool true) ∧ Below w.heap.size w w' := by
  obtain ⟨i0, hi0', hz, hsz, hby⟩ := info_parts jobInfo
  have HI := Lib.hid (And.intro hi0' (And.intro hz (And.intro hsz hby)))
  clear hi0' hz hsz hby
  have hm : cap ≤ maxLen := hb.2.2
  have hlc : len ≤ cap := hb.2.1
  unfold maxLen at hm
  have HB := Lib.hid hb
  clear hb
  by_cases hl : 1048576 < len
  · have hl' : (1048576 : Int) < len := by omega
    go_enter Try.func3, Try.ntmps3
    go_wp2
    go_ret
    exact ⟨rfl, Below.refl _ _⟩
  have hl' : ¬ (1048576 : Int) < len := by omega
  go_enter Try.func3, Try.ntmps3
  go_wp2_with fail
  refine (drawJobsLegal_any _ _ _ _ HB.out).mono ?_
  rintro e w1 ⟨g, cap1, jcap, ja, ts, js, rfl, hn, hlc1, hcm1, hjn, hr1, hoj, b1⟩
  have R1 := Lib.hid hr1
  have OJ1 := Lib.hid hoj
  have RJ1 := Lib.hid hoj.rowJ
  clear hr1 hoj HB hcm1
  go_wp2_with fail
  refine (jobsLegal_any _ _ _ _ ts js _ R1.out RJ1.out (by omega) (by omega)).mono ?_
  rintro e w2 ⟨rfl, b2⟩
  have R2 := Lib.hid (R1.out.below b2)
  have RJ2 := Lib.hid (RJ1.out.below b2)
  go_wp2_with fail
  refine (specJobsLegal_any _ _ _ _ ts js _ R2.out RJ2.out (by omega) (by omega)).mono ?_
  rintro e w3 ⟨rfl, b3⟩
  have B3 : Below w.heap.size w w3 := b1.trans ((b2.trans (b3.mono b2.size)).mono b1.size)
  have b13 : Below w1.heap.size w1 w3 := b2.trans (b3.mono b2.size)
  have R3 := Lib.hid (R1.out.below b13)
  have OJ3 := Lib.hid (OJ1.out.below b13)
  have RJ3 := Lib.hid OJ3.out.rowJ
  clear R1 R2 RJ1 RJ2 OJ1 b1 b2 b3 b13
  by_cases hleg : legB ts js = true
  · have HL := Lib.hid hleg
    rw [hleg]
    clear hleg
    go_wp2
    go_loopg [6] js.length (fun m z wr => ∃ i : Nat, m + i = js.length ∧ z = .int .i64 i ∧ Below w3.heap.size w3 wr)
    case atStart => exact ⟨0, by omega, rfl, Below.refl _ _⟩
    case round =>
      obtain ⟨i, hk, rfl, B⟩ := hrel
      have HK := Lib.hid hk
      obtain ⟨G, hG⟩ : ∃ G, G = gk := ⟨_, rfl⟩
      have HG := Lib.hid hG
      have hii : i ≤ js.length := by omega
      clear hk hG
      by_cases hi : i < js.length
      · have hi0 : (0 : Int) ≤ i := by omega
        have hi1 : (i : Int) < js.length := by omega
        have hcj := OJ3.out.cap_le
        obtain ⟨gj, jc, ej, hgj, hgj2, _, ycj⟩ := OJ3.out.at (by omega)
        simp only [Value.slice.injEq] at ej
        obtain ⟨rfl, _, rfl⟩ := ej
        have YC := Lib.hid fun m (hm : m < js.length * 4) => (B.cell (p := ⟨gj, m, none⟩) hgj2).trans (ycj m hm)
        have hsB := B.size
        have CP := Lib.hid fun o => (show ∀ (m : Nat) (u : Value), (vals (fJ js) (js.length * 4))[m]? = some u → (wr.alloc o).cell? ((⟨gj, 0, none⟩ : Addr).add m) = some u from fun m u hm => by
          have hml : m < js.length * 4 := by have := (List.getElem?_eq_some_iff.1 hm).1; rwa [vals_len] at this
          rw [vals_at _ hml] at hm
          rw [Addr.add_lit, Nat.zero_add, ← hm]
          exact ((below_box wr o).cell (p := ⟨gj, m, none⟩) (by simp; omega)).trans (YC.out m hml))
        clear ycj
        go_wp2_with (at_builtin; refine wpList_append_own _ rfl (.tmp 34) (.tmp 35) 24 rfl wr.heap.size 30 i0 _ 4 32 Try.underlying24 HI.out.1 HI.out.2.1 HI.out.2.2.1 HI.out.2.2.2 rfl (by decide) (.slice (some ⟨wr.heap.size, 0, none⟩) 0 0) 0 [] rfl (own_emptyJ wr) ⟨gj, 0, none⟩ js.length jcap (vals (fJ js) (js.length * 4)) rfl (vals_len _ _) (CP.out _) (vals_one _ _) (by unfold maxLen; omega) (by omega) (by simp) ?_; intro v' w4 hown' hgrow hnil; have hO4 := OwnJ.copied hown'; have B4 : Below wr.heap.size wr w4 := ((below_box wr _).grown hgrow (by simp) (by simp [Value.ownBlock])); obtain ⟨gs, cs, rfl, hgs, hgs2, zs, ys⟩ := hO4.at (by omega); have q0 := ys (i * 4 + 3) (by omega); have q1 := zs (i * 4 + 3); have HO4 := Lib.hid hO4; clear hown' hgrow hnil hO4 zs ys)
        obtain ⟨W, hW⟩ : ∃ W, W = w4.setCell ⟨gs, i * 4 + 3, none⟩ (.int .i64 1) := ⟨_, rfl⟩
        have HO5 := Lib.hid (show OwnJ W wr.heap.size (.slice (some ⟨gs, 0, none⟩) (js.set i (shortJ (jb js i))).length cs) (js.set i (shortJ (jb js i))) by rw [hW]; exact HO4.out.set hi (c := 3) (by omega) 1)
        have B5 : Below wr.heap.size wr W := by rw [hW]; exact B4.setCell hgs _
        rw [← hW]
        clear hW HO4 B4 q0 q1
        have hTl : (js.take i).length = i := by rw [List.length_take]; omega
        have hSl : (js.set i (shortJ (jb js i))).length = js.length := by simp
        have B35 : Below w3.heap.size w3 W := B.trans (B5.mono hsB)
        have C1 := jobsLegal_any (some ⟨g, 0, none⟩) (some ⟨gj, 0, none⟩) cap1 jcap ts (js.take i) W (R3.out.below B35) ((RJ3.out.take i).below B35) (by omega) (by omega)
        rw [hTl, leg_take HL.out i] at C1
        go_wp2_with fail
        refine C1.mono ?_
        rintro e w6 ⟨rfl, b6⟩
        have B36 : Below w3.heap.size w3 w6 := B35.trans (b6.mono B35.size)
        have C2 := jobsLegal_any (some ⟨g, 0, none⟩) (some ⟨gs, 0, none⟩) cap1 cs ts (js.set i (shortJ (jb js i))) w6 (R3.out.below B36) ((HO5.out.below b6).rowJ) (by omega) (by omega)
        rw [hSl, leg_short HL.out hi] at C2
        go_wp2_with fail
        refine C2.mono ?_
        rintro e w7 ⟨rfl, b7⟩
        have B37 : Below w3.heap.size w3 w7 := B36.trans (b7.mono B36.size)
        have hs37 := B37.size
        clear C1 C2 HO5 B5 B35 B36 b6 b7 YC CP B
        obtain ⟨gj', jc', ej', _, _, _, yc⟩ := OJ3.out.at (by omega)
        have ej2 : gj' = gj := by simp only [Value.slice.injEq, Option.some.injEq, Addr.mk.injEq] at ej'; exact ej'.1.1.symm
        rw [ej2] at yc
        clear ej' ej2
        have Y := Lib.hid fun m (hm : m < js.length * 4) => (B37.cell (p := ⟨gj, m, none⟩) hgj2).trans (yc m hm)
        clear yc
        obtain ⟨hid, hrl, hidl, hrb⟩ := leg_ids HL.out hi
        have ci0 := Y.out (i * 4) (by omega)
        have ci1 := Y.out (i * 4 + 1) (by omega)
        rw [(fJ4 js i).1, hid] at ci0
        rw [(fJ4 js i).2.1, hrl] at ci1
        obtain ⟨bt, ot, et, _, _, _, y2⟩ := (R3.out.below B37).at hidl
        simp only [Option.some.injEq, Addr.mk.injEq, and_true] at et
        obtain ⟨rfl, rfl⟩ := et
        rw [Nat.zero_add] at y2
        have hbd := tv_bd (tk_tv (sv_all (legB_iff.1 HL.out).1).1 hidl)
        rw [← hbd.2.2.2.2.2.2.2] at y2
        have hpb : per (tk ts (jid js i)) ≤ 12 := hbd.2.2.2.1
        have HAP := Lib.hid fun j (hj : j < i) he => leg_apart HL.out hi hj he
        obtain ⟨I, hI⟩ : ∃ I, I = jid js i := ⟨_, rfl⟩
        obtain ⟨RI, hRI⟩ : ∃ RI, RI = jrel js i := ⟨_, rfl⟩
        obtain ⟨Q, hQ⟩ : ∃ Q, Q = per (tk ts (jid js i)) := ⟨_, rfl⟩
        rw [← hQ] at y2 hpb
        rw [← hI] at ci0 y2 hidl
        rw [← hRI] at ci1 hrb
        have hI0 : (0 : Int) ≤ I := by omega
        have hI1 : (I : Int) < ts.length := by omega
        have HIQ := Lib.hid (And.intro hI (And.intro hRI hQ))
        clear hI hRI hQ hid hrl hbd
        go_wp2
        go_loopg [8] i (fun m z wr => ∃ j l : Nat, m + j = i ∧ z = .int .i64 j ∧ wr = w7.drewN l)
        case atStart => exact ⟨0, 0, by omega, rfl, rfl⟩
        case round =>
          obtain ⟨j, l, hk, rfl, rfl⟩ := hrel
          have HKJ := Lib.hid hk
          have hjj : j ≤ i := by omega
          clear hk
          by_cases hj : j < i
          · have hj' : (j : Int) < i := by omega
            have hj0 : (0 : Int) ≤ j := by omega
            have hj1 : (j : Int) < js.length := by omega
            obtain ⟨hid, hrl, _, hrb2⟩ := leg_ids HL.out (k := j) (by omega)
            have cj0 := Y.out (j * 4) (by omega)
            have cj1 := Y.out (j * 4 + 1) (by omega)
            rw [(fJ4 js j).1, hid] at cj0
            rw [(fJ4 js j).2.1, hrl] at cj1
            by_cases he : jid js j = jid js i
            · have hap := HAP.out j hj he
              rw [he, ← HIQ.out.1] at cj0
              rw [← HIQ.out.2.1, ← HIQ.out.2.2] at hap
              obtain ⟨RJ, hRJ⟩ : ∃ RJ, RJ = jrel js j := ⟨_, rfl⟩
              rw [← hRJ] at cj1 hap hrb2
              have hd : ¬ (RI : Int) - RJ < Q := by omega
              clear he hRJ hid hrl hap
              go_wp2
              have hwd : IntKind.i64.wrap ((RI : Int) - RJ) = (RI : Int) - RJ := IntWalk.i64_in _ (by omega)
              have hd2 : ¬ (RI : Int) - RJ < Q := by omega
              go_quiet (fail)
              go_wp2
              go_roundg (gk - 1)
              case measure => have := HKJ.out; omega
              case rel => exact ⟨j + 1, l + nq, by have := HKJ.out; omega, by go_num, by first | rfl | rw [World.drewN_drewN]⟩
            · obtain ⟨J, hJ⟩ : ∃ J, J = jid js j := ⟨_, rfl⟩
              rw [← hJ] at cj0
              have hne : ((J : Int) == I) = false := beq_eq_false_iff_ne.2 (by have := HIQ.out.1; omega)
              obtain ⟨RJ, hRJ⟩ : ∃ RJ, RJ = jrel js j := ⟨_, rfl⟩
              rw [← hRJ] at cj1
              clear he hJ hRJ hid hrl
              go_wp2
              go_quiet (fail)
              go_wp2
              go_roundg (gk - 1)
              case measure => have := HKJ.out; omega
              case rel => exact ⟨j + 1, l + nq, by have := HKJ.out; omega, by go_num, by first | rfl | rw [World.drewN_drewN]⟩
          · obtain rfl : j = i := by omega
            go_wp2
            go_roundg (G - 1)
            case measure => have := HK.out; have := HG.out; omega
            case rel => exact ⟨j + 1, by have := HK.out; have := HG.out; omega, by go_num, below_drewN' B37 _⟩
      · obtain rfl : i = js.length := by omega
        go_wp2
        go_ret
        exact ⟨rfl, B3.trans (B.mono B3.size)⟩
  · have hleg' : legB ts js = false := by simpa using hleg
    rw [hleg']
    go_wp2_with fail
    refine (alive_any _).mono ?_
    rintro e w8 ⟨rfl, b8⟩
    go_wp2
    go_ret
    exact ⟨rfl, B3.trans (b8.mono B3.size)⟩

end Go.Proofs.Ytpnfbgbbmpacfaa
