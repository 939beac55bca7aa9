/- Contracts of impl.Ceilings, impl.blockingTerm and its closure, impl.Blocking, impl.ResourcesFeasible. Conditions: the slices hold what is said, at most 2^40 entries. -/
import Derived.Test.YtlagghoohloklaaSecImpl
import Derived.Test.YtlagghoohloklaaDemImpl
import Derived.BigRegion
namespace Go.Proofs.Ytlagghoohloklaa
open Go.RowKit Go.Deep

theorem ce_start {w w' : World} {v : Value} {ts ss : List T3} (h : OwnI w' w.heap.size v 3 (fun _ => 13)) : OwnI w' w.heap.size v 3 (fun r => (ceN ts ss r 0 : Nat)) := h.congr fun _ _ => rfl

set_option maxRecDepth 100000 in
set_option maxHeartbeats 4000000 in
/-- impl.Ceilings. -/
theorem ceilings_any (a sa : Option Addr) (cap scap : Nat) (ts ss : List T3) (w : World) (hr : Row w a ts) (hs : Row w sa ss) (hb : StB ss) (hn : ts.length ≤ 1099511627776) (hsn : ss.length ≤ 1099511627776) :
    Calls Try.prog 89 #[.slice a ts.length cap, .slice sa ss.length scap] w fun e w' => CeGot w.heap.size ts ss e w' ∧ Below w.heap.size w w' := by
  have HR := Lib.hid hr
  have HS := Lib.hid hs
  clear hr hs
  cases hv : scB ts ss with
  | false =>
    have HY := Lib.hid (show ceL ts ss = 0 by rw [ceL, if_neg (by rw [hv]; simp)])
    go_enter Try.func89, Try.ntmps89
    go_wp2_with fail
    refine (sectionsValid_any _ _ _ _ _ _ _ HR.out HS.out hb hn hsn).mono ?_
    rintro e w1 ⟨rfl, b1⟩
    rw [hv]
    clear hv
    go_wp2
    go_ret
    exact ⟨⟨_, rfl, by rw [HY.out]; exact OwnI.nil _ _ _⟩, b1⟩
  | true =>
  have HV := Lib.hid hv
  have HY := Lib.hid (show ceL ts ss = 3 by rw [ceL, if_pos hv])
  have hl5 := (sv_all (scB_iff.1 hv).1).2
  have HL := Lib.hid (scB_iff.1 hv).2.1
  clear hv
  go_enter Try.func89, Try.ntmps89
  go_wp2_with fail
  refine (sectionsValid_any _ _ _ _ _ _ _ HR.out HS.out hb hn hsn).mono ?_
  rintro e w1 ⟨rfl, b1⟩
  rw [HV.out]
  have B1 := Lib.hid b1
  clear b1
  go_wp2_with fail
  refine (repeat_any 3 _ 13 _ (by omega) (by simp [go_sem])).mono ?_
  rintro e w2 ⟨v, rfl, ho, b2⟩
  obtain ⟨g, vc, rfl, -⟩ := ho.at (by omega)
  have B2 := Lib.hid (B1.out.trans (((below_box w1 _).trans (b2.mono (by simp))).mono B1.out.size))
  have O2 := Lib.hid (ce_start (w := w) (ts := ts) (ss := ss) (ho.mono (by have := B1.out.size; simp; omega)))
  clear ho b2 B1
  go_wp2
  go_loopg [16] ss.length (fun m i wr => ∃ k : Nat, m + k = ss.length ∧ i = .int .i64 k ∧ OwnI wr w.heap.size (.slice (some ⟨g, 0, none⟩) 3 vc) 3 (fun r => (ceN ts ss r k : Nat)) ∧ Below w.heap.size w wr)
  case atStart => exact ⟨0, rfl, rfl, O2.out, B2.out⟩
  case round =>
    obtain ⟨k, hk, rfl, ho, B⟩ := hrel
    have HK := Lib.hid hk
    have hkk : k ≤ ss.length := by omega
    have HO := Lib.hid ho
    have HB := Lib.hid B
    clear hk B ho B2 O2
    by_cases hlt : k < ss.length
    · have hlt2 : k < ts.length := by have := HL.out; omega
      obtain ⟨b, off, rfl, hbs, x0, x1, x2⟩ := (HS.out.below HB.out).tk hlt
      obtain ⟨bt, ot, rfl, hbt, -, y1, -⟩ := (HR.out.below HB.out).tk hlt2
      have hnat := sc_nat HV.out hlt2
      rw [hnat.1] at x0
      rw [hnat.2.1] at x1
      rw [hnat.2.2.1] at x2
      rw [hnat.2.2.2.1] at y1
      have hd12 : tdl ts k ≤ 12 := by omega
      have hS2 : srs ss k ≤ 2 := by omega
      have h13 := ceN_13 ts ss (srs ss k) k
      have HSTEP := Lib.hid (show ∀ r, ceN ts ss r (k + 1) = if 0 < sln ss k ∧ srs ss k = r then min (ceN ts ss r k) (tdl ts k) else ceN ts ss r k from fun r => rfl)
      obtain ⟨q0, q1, hgl, hg0⟩ := HO.out.cellAt (k := srs ss k) (by omega)
      obtain ⟨X, hX⟩ : ∃ X, X = ceN ts ss (srs ss k) k := ⟨_, rfl⟩
      obtain ⟨T, hT⟩ : ∃ T, T = sst ss k := ⟨_, rfl⟩
      obtain ⟨L, hL⟩ : ∃ L, L = sln ss k := ⟨_, rfl⟩
      obtain ⟨S, hS⟩ : ∃ S, S = srs ss k := ⟨_, rfl⟩
      obtain ⟨D, hD⟩ : ∃ D, D = tdl ts k := ⟨_, rfl⟩
      rw [← hX] at h13 q0
      rw [← hT] at x0
      rw [← hL] at x1 HSTEP
      rw [← hS] at x2 hS2 HSTEP q0 q1
      rw [← hD] at y1 hd12 HSTEP
      have HX := Lib.hid (show X = ceN ts ss S k by rw [hX, hS])
      clear hnat hX hT hL hS hD
      have hk0 : (0 : Int) ≤ k := by omega
      have hk1 : (k : Int) < ts.length := by omega
      have hk2 : (k : Int) < ss.length := by omega
      have hs0 : (0 : Int) ≤ S := by omega
      have hs1 : (S : Int) < 3 := by omega
      have b2 := below_box wr (.cells #[.int .i64 (T : Int), .int .i64 (L : Int), .int .i64 (S : Int)] 39)
      obtain ⟨W, hW⟩ : ∃ W, W = wr.alloc (.cells #[.int .i64 (T : Int), .int .i64 (L : Int), .int .i64 (S : Int)] 39) := ⟨_, rfl⟩
      rw [← hW] at b2
      have z1 : W.cell? ⟨wr.heap.size, 1, none⟩ = some (.int .i64 (L : Int)) := by rw [hW]; go_simp
      have z2 : W.cell? ⟨wr.heap.size, 2, none⟩ = some (.int .i64 (S : Int)) := by rw [hW]; go_simp
      have v1 := (b2.cell (p := ⟨bt, ot + k * 3 + 1, none⟩) hbt).trans y1
      have p0 := (b2.cell (p := ⟨g, S, none⟩) hgl).trans q0
      have p1 := (b2.frozen (p := ⟨g, S, none⟩) hgl).trans q1
      have HOW := Lib.hid (HO.out.below b2)
      have HBW := Lib.hid (HB.out.trans (b2.mono HB.out.size))
      have HW := Lib.hid hW
      clear hW b2 y1 q0 q1
      by_cases hl : 0 < L
      · have hl' : (0 : Int) < L := by omega
        by_cases hm : D < X
        · have hm' : (D : Int) < X := by omega
          have HN := Lib.hid (show ∀ r, r < 3 → (if r = S then ((D : Nat) : Int) else (ceN ts ss r k : Nat)) = (ceN ts ss r (k + 1) : Nat) from fun r _ => by
            rw [HSTEP.out]
            by_cases e : r = S
            · subst e
              have := HX.out
              rw [if_pos rfl, if_pos ⟨hl, rfl⟩]
              omega
            · rw [if_neg e, if_neg (fun h => e h.2.symm)])
          go_wp2
          rw [← HW.out]
          go_region
          go_wp2
          go_roundg (gk - 1)
          case measure => have := HK.out; omega
          case rel => exact ⟨k + 1, by have := HK.out; omega, by go_num, ((HOW.out.set (k := S) (by omega) (D : Int)).drew).congr HN.out, (HBW.out.setCell hg0 _).drew⟩
        · have hm' : ¬ (D : Int) < X := by omega
          have HN := Lib.hid (show ∀ r, r < 3 → (if r = S then ((X : Nat) : Int) else (ceN ts ss r k : Nat)) = (ceN ts ss r (k + 1) : Nat) from fun r _ => by
            rw [HSTEP.out]
            by_cases e : r = S
            · subst e
              have := HX.out
              rw [if_pos rfl, if_pos ⟨hl, rfl⟩]
              omega
            · rw [if_neg e, if_neg (fun h => e h.2.symm)])
          go_wp2
          rw [← HW.out]
          go_region
          go_wp2
          go_roundg (gk - 1)
          case measure => have := HK.out; omega
          case rel => exact ⟨k + 1, by have := HK.out; omega, by go_num, ((HOW.out.set (k := S) (by omega) (X : Int)).drew).congr HN.out, (HBW.out.setCell hg0 _).drew⟩
      · have hl' : ¬ (0 : Int) < L := by omega
        have HN := Lib.hid (show ∀ r, r < 3 → ((ceN ts ss r k : Nat) : Int) = (ceN ts ss r (k + 1) : Nat) from fun r _ => by rw [HSTEP.out, if_neg (fun h => hl h.1)])
        go_wp2
        rw [← HW.out]
        go_roundg (gk - 1)
        case measure => have := HK.out; omega
        case rel => exact ⟨k + 1, by have := HK.out; omega, by go_num, HOW.out.congr HN.out, HBW.out⟩
    · have hkl : ts.length = k := by have := HL.out; omega
      have hlt' : ¬ (k : Int) < ss.length := by omega
      go_wp2
      go_ret
      exact ⟨⟨_, rfl, by rw [HY.out]; exact HO.out.congr fun r _ => by rw [ce, hkl]⟩, HB.out⟩

/-- What the closure of impl.blockingTerm has captured. -/
structure Bkt (w : World) (g1 g2 g3 : Nat) (a sa va : Option Addr) (cap scap vcap : Nat) (ts ss : List T3) : Prop where
  c1 : w.cell? ⟨g1, 0, none⟩ = some (.slice sa ss.length scap)
  c2 : w.cell? ⟨g2, 0, none⟩ = some (.slice a ts.length cap)
  c3 : w.cell? ⟨g3, 0, none⟩ = some (.slice va 3 vcap)
  rt : Row w a ts
  rs : Row w sa ss
  iv : IntF w va 3 (fun r => (ce ts ss r : Nat))
theorem Bkt.below {w w' : World} {g1 g2 g3 : Nat} {a sa va : Option Addr} {cap scap vcap : Nat} {ts ss : List T3} (h : Bkt w g1 g2 g3 a sa va cap scap vcap ts ss) (hb : Below w.heap.size w w') : Bkt w' g1 g2 g3 a sa va cap scap vcap ts ss :=
  ⟨(hb.cell (World.block_lt_of_cell? w _ h.c1)).trans h.c1, (hb.cell (World.block_lt_of_cell? w _ h.c2)).trans h.c2, (hb.cell (World.block_lt_of_cell? w _ h.c3)).trans h.c3, h.rt.below hb, h.rs.below hb, h.iv.below hb⟩
def GotBk (ts ss : List T3) (a sa : Option Addr) (cap scap : Nat) (e : Ending) (w' : World) : Prop :=
  ∃ (g1 g2 g3 vcap : Nat) (va : Option Addr), e = .returned (.func (.func 104) #[] #[.pointer (some ⟨g1, 0, none⟩), .pointer (some ⟨g2, 0, none⟩), .pointer (some ⟨g3, 0, none⟩)]) ∧ Bkt w' g1 g2 g3 a sa va cap scap vcap ts ss

/-- impl.blockingTerm. -/
theorem blockingTerm_any (a sa : Option Addr) (cap scap : Nat) (ts ss : List T3) (w : World) (hr : Row w a ts) (hs : Row w sa ss) (hb : StB ss) (hn : ts.length ≤ 1099511627776) (hsn : ss.length ≤ 1099511627776) (hv : scB ts ss = true) :
    Calls Try.prog 58 #[.slice a ts.length cap, .slice sa ss.length scap] w fun e w' => GotBk ts ss a sa cap scap e w' ∧ Below w.heap.size w w' := by
  have b0 := (below_box w (.cells #[.slice a ts.length cap] 23)).alloc (by simp) (.cells #[.slice sa ss.length scap] 24)
  obtain ⟨W, hW⟩ : ∃ W, W = (w.alloc (.cells #[.slice a ts.length cap] 23)).alloc (.cells #[.slice sa ss.length scap] 24) := ⟨_, rfl⟩
  rw [← hW] at b0
  have z2 : W.cell? ⟨w.heap.size, 0, none⟩ = some (.slice a ts.length cap) := by rw [hW]; go_simp
  have z1 : W.cell? ⟨w.heap.size + 1, 0, none⟩ = some (.slice sa ss.length scap) := by rw [hW]; go_simp
  have HR := Lib.hid (hr.below b0)
  have HS := Lib.hid (hs.below b0)
  have B0 := Lib.hid b0
  have HY := Lib.hid (show ceL ts ss = 3 by rw [ceL, if_pos hv])
  have HZ := Lib.hid (And.intro z1 z2)
  have HW := Lib.hid hW
  clear hr hs b0 hW
  go_enter Try.func58, Try.ntmps58
  go_wp2_with fail
  rw [← HW.out]
  refine (ceilings_any _ _ _ _ _ _ _ HR.out HS.out hb hn hsn).mono ?_
  rintro e w1 ⟨⟨v, rfl, ho⟩, b1⟩
  rw [HY.out] at ho
  obtain ⟨va, vc, rfl⟩ := own_shape ho
  have HO := Lib.hid ho.intF'
  have BB := Lib.hid b1
  clear ho b1
  go_wp2
  go_ret
  have bb := below_box w1 (.cells #[.slice va 3 vc] 28)
  have hs1 := BB.out.size
  have hl1 := World.block_lt_of_cell? _ _ HZ.out.1
  have hl2 := World.block_lt_of_cell? _ _ HZ.out.2
  refine ⟨⟨_, _, _, vc, va, rfl, ?_, ?_, ?_, (HR.out.below BB.out).below bb, (HS.out.below BB.out).below bb, HO.out.below bb⟩, (B0.out.trans (BB.out.mono B0.out.size)).trans (bb.mono (Nat.le_trans B0.out.size hs1))⟩
  · exact (bb.cell (Nat.lt_of_lt_of_le hl1 hs1)).trans ((BB.out.cell hl1).trans HZ.out.1)
  · exact (bb.cell (Nat.lt_of_lt_of_le hl2 hs1)).trans ((BB.out.cell hl2).trans HZ.out.2)
  · simp [go_sem]

set_option maxRecDepth 100000 in
/-- The closure of impl.blockingTerm. -/
theorem blockingTerm1_any (g1 g2 g3 : Nat) (a sa va : Option Addr) (cap scap vcap t : Nat) (ts ss : List T3) (w : World) (h : Bkt w g1 g2 g3 a sa va cap scap vcap ts ss) (hv : scB ts ss = true) :
    Calls Try.prog 104 #[.int .i64 (t : Int), .pointer (some ⟨g1, 0, none⟩), .pointer (some ⟨g2, 0, none⟩), .pointer (some ⟨g3, 0, none⟩)] w fun e w' => e = .returned (.int .i64 (bl ts ss t : Nat)) ∧ Below w.heap.size w w' := by
  have c1 := h.c1
  have HH := Lib.hid h
  have HV := Lib.hid hv
  have hl5 := (sv_all (scB_iff.1 hv).1).2
  have HL := Lib.hid (scB_iff.1 hv).2.1
  have hlss : ss.length ≤ 5 := by have := HL.out; omega
  clear h hv
  go_enter Try.func104, Try.ntmps104
  go_wp2
  go_loopg [6, 11] ss.length (fun m c i wr => ∃ k : Nat, m + k = ss.length ∧ i = .int .i64 k ∧ c = .int .i64 (blN ts ss t k : Nat) ∧ Below w.heap.size w wr)
  case atStart => exact ⟨0, rfl, rfl, rfl, Below.refl _ _⟩
  case round =>
    obtain ⟨k, hk, rfl, rfl, B⟩ := hrel
    have HK := Lib.hid hk
    have hkk : k ≤ ss.length := by omega
    have HB := Lib.hid B
    clear hk B c1
    by_cases hlt : k < ss.length
    · have hlt2 : k < ts.length := by have := HL.out; omega
      have HN := HH.out.below HB.out
      have h8 := blN_le8 HV.out t (Nat.le_of_lt hlt2)
      have c2 := HN.c2
      have c3 := HN.c3
      obtain ⟨b, off, rfl, hbs, x0, x1, x2⟩ := HN.rs.tk hlt
      obtain ⟨bt, ot, rfl, hbt, -, y1, -⟩ := HN.rt.tk hlt2
      have hnat := sc_nat HV.out hlt2
      rw [hnat.1] at x0
      rw [hnat.2.1] at x1
      rw [hnat.2.2.1] at x2
      rw [hnat.2.2.2.1] at y1
      obtain ⟨bv, ov, rfl, hbv, u0⟩ := HN.iv (srs ss k) (by omega)
      simp only at u0
      have hd12 : tdl ts k ≤ 12 := by omega
      have hS2 : srs ss k ≤ 2 := by omega
      have C13 := ceN_13 ts ss (srs ss k) ts.length
      obtain ⟨X, hX⟩ : ∃ X, X = blN ts ss t k := ⟨_, rfl⟩
      obtain ⟨T, hT⟩ : ∃ T, T = sst ss k := ⟨_, rfl⟩
      obtain ⟨L, hL⟩ : ∃ L, L = sln ss k := ⟨_, rfl⟩
      obtain ⟨S, hS⟩ : ∃ S, S = srs ss k := ⟨_, rfl⟩
      obtain ⟨D, hD⟩ : ∃ D, D = tdl ts k := ⟨_, rfl⟩
      obtain ⟨E, hE⟩ : ∃ E, E = ce ts ss (srs ss k) := ⟨_, rfl⟩
      have hE13 : E ≤ 13 := by rw [hE]; exact C13
      have HST := Lib.hid (show blN ts ss t (k + 1) = if t < D ∧ 0 < L ∧ E ≤ t then max X L else X by rw [hX, hL, hD, hE]; rfl)
      have hL12 : L ≤ 12 := by rw [hL]; omega
      rw [← hE] at u0
      rw [← hX] at h8
      rw [← hX]
      rw [← hT] at x0
      rw [← hL] at x1
      rw [← hS] at x2 hS2 u0
      rw [← hD] at y1 hd12
      clear hnat hX hT hL hS hD hE C13 HN
      have hk0 : (0 : Int) ≤ k := by omega
      have hk1 : (k : Int) < ts.length := by omega
      have hk2 : (k : Int) < ss.length := by omega
      have hs0 : (0 : Int) ≤ S := by omega
      have hs1 : (S : Int) < 3 := by omega
      have b2 := below_box wr (.cells #[.int .i64 (T : Int), .int .i64 (L : Int), .int .i64 (S : Int)] 39)
      obtain ⟨W, hW⟩ : ∃ W, W = wr.alloc (.cells #[.int .i64 (T : Int), .int .i64 (L : Int), .int .i64 (S : Int)] 39) := ⟨_, rfl⟩
      rw [← hW] at b2
      have z1 : W.cell? ⟨wr.heap.size, 1, none⟩ = some (.int .i64 (L : Int)) := by rw [hW]; go_simp
      have z2 : W.cell? ⟨wr.heap.size, 2, none⟩ = some (.int .i64 (S : Int)) := by rw [hW]; go_simp
      have v1 := (b2.cell (p := ⟨bt, ot + k * 3 + 1, none⟩) hbt).trans y1
      have v2 := (b2.cell (p := ⟨bv, ov + S, none⟩) hbv).trans u0
      have v3 := (b2.cell (p := ⟨g2, 0, none⟩) (World.block_lt_of_cell? _ _ c2)).trans c2
      have v4 := (b2.cell (p := ⟨g3, 0, none⟩) (World.block_lt_of_cell? _ _ c3)).trans c3
      have HBW := Lib.hid (HB.out.trans (b2.mono HB.out.size))
      have HW := Lib.hid hW
      clear hW b2 y1 u0 c2 c3
      by_cases h1 : t < D
      · have h1' : (t : Int) < D := by omega
        by_cases he : E ≤ t
        · have he' : (E : Int) ≤ t := by omega
          by_cases hm : X < L
          · have hm' : (X : Int) < L := by omega
            have HN2 := Lib.hid (show blN ts ss t (k + 1) = L by rw [HST.out, if_pos ⟨h1, by omega, he⟩]; omega)
            go_upto_region 5 with fail
            rw [← HW.out]
            go_wp2
            go_roundg (gk - 1)
            case measure => have := HK.out; omega
            case rel => exact ⟨k + 1, by have := HK.out; omega, by go_num, by rw [HN2.out], HBW.out⟩
          · have hm' : ¬ (X : Int) < L := by omega
            have HN2 := Lib.hid (show blN ts ss t (k + 1) = X by rw [HST.out]; split <;> omega)
            go_upto_region 5 with fail
            rw [← HW.out]
            go_wp2
            go_roundg (gk - 1)
            case measure => have := HK.out; omega
            case rel => exact ⟨k + 1, by have := HK.out; omega, by go_num, by rw [HN2.out], HBW.out⟩
        · have he' : ¬ (E : Int) ≤ t := by omega
          have HN := Lib.hid (show blN ts ss t (k + 1) = X by rw [HST.out, if_neg (fun h => he h.2.2)])
          go_upto_region 5 with fail
          rw [← HW.out]
          go_wp2
          go_roundg (gk - 1)
          case measure => have := HK.out; omega
          case rel => exact ⟨k + 1, by have := HK.out; omega, by go_num, by rw [HN.out], HBW.out⟩
      · have h1' : ¬ (t : Int) < D := by omega
        have HN := Lib.hid (show blN ts ss t (k + 1) = X by rw [HST.out, if_neg (fun h => h1 h.1)])
        go_upto_region 5 with fail
        rw [← HW.out]
        go_wp2
        go_roundg (gk - 1)
        case measure => have := HK.out; omega
        case rel => exact ⟨k + 1, by have := HK.out; omega, by go_num, by rw [HN.out], HBW.out⟩
    · have HKL := Lib.hid (show ts.length = k by have := HL.out; omega)
      have hlt' : ¬ (k : Int) < ss.length := by omega
      go_wp2
      go_ret
      exact ⟨ret_int (by rw [bl, HKL.out]), HB.out⟩

set_option maxRecDepth 100000 in
set_option maxHeartbeats 4000000 in
/-- impl.ResourcesFeasible. -/
theorem resourcesFeasible_any (a sa : Option Addr) (cap scap : Nat) (ts ss : List T3) (w : World) (hr : Row w a ts) (hs : Row w sa ss) (hb : StB ss) (hn : ts.length ≤ 1099511627776) (hsn : ss.length ≤ 1099511627776) :
    Calls Try.prog 17 #[.slice a ts.length cap, .slice sa ss.length scap] w fun e w' => e = .returned (.bool (rfB ts ss)) ∧ Below w.heap.size w w' := by
  have HR := Lib.hid hr
  have HS := Lib.hid hs
  clear hr hs
  cases hv : scB ts ss with
  | false =>
    have HY := Lib.hid (rf_no1 hv)
    go_enter Try.func17, Try.ntmps17
    go_wp2_with fail
    refine (sectionsValid_any _ _ _ _ _ _ _ HR.out HS.out hb hn hsn).mono ?_
    rintro e w1 ⟨rfl, b1⟩
    rw [hv]
    clear hv
    go_wp2
    go_ret
    exact ⟨ret_bool HY.out.symm, b1⟩
  | true =>
  have HV := Lib.hid hv
  have HSV := Lib.hid (scB_iff.1 hv).1
  have hhb := hyp_bd ts (sv_all (scB_iff.1 hv).1).1
  have hl5 := (sv_all (scB_iff.1 hv).1).2
  clear hv
  go_enter Try.func17, Try.ntmps17
  go_wp2_with fail
  refine (sectionsValid_any _ _ _ _ _ _ _ HR.out HS.out hb hn hsn).mono ?_
  rintro e w1 ⟨rfl, b1⟩
  rw [HV.out]
  have B1 := Lib.hid b1
  clear b1
  go_wp2_with fail
  refine (summed_demand _ _ _ _ (HR.out.below B1.out) hl5).mono ?_
  rintro e w2 ⟨v, rfl, hsu, b2⟩
  have B2 := Lib.hid (B1.out.trans (b2.mono B1.out.size))
  have U2 := Lib.hid hsu
  clear b2 hsu
  go_wp2_with fail
  refine (blockingTerm_any _ _ _ _ _ _ _ (HR.out.below B2.out) (HS.out.below B2.out) hb hn hsn HV.out).mono ?_
  rintro e w3 ⟨⟨g1, g2, g3, vcap, va, rfl, hbk⟩, b3⟩
  have HBK := Lib.hid hbk
  have U3 := Lib.hid (U2.out.below b3)
  have B3 := Lib.hid (B2.out.trans (b3.mono B2.out.size))
  clear hbk b3 U2
  go_wp2_with fail
  refine (hyperperiod_any _ _ _ _ (HR.out.below B3.out) hn).mono ?_
  rintro e w4 ⟨rfl, b4⟩
  have U4 := Lib.hid (U3.out.below b4)
  have K4 := Lib.hid (HBK.out.below b4)
  have B4 := Lib.hid (B3.out.trans (b4.mono B3.out.size))
  rw [hyB_yes HSV.out]
  clear b4 U3 HBK
  obtain ⟨H, hH⟩ : ∃ H, H = hyp ts := ⟨_, rfl⟩
  rw [← hH] at hhb ⊢
  have HH := Lib.hid hH
  clear hH
  go_wp2
  go_loopg [8] H (fun m i wr => ∃ t : Nat, m + t = H + 1 ∧ 1 ≤ t ∧ i = .int .i64 t ∧ (∀ u, 1 ≤ u → u < t → dem ts u + bl ts ss u ≤ u) ∧ Below w4.heap.size w4 wr)
  case atStart => exact ⟨1, by omega, Nat.le_refl _, rfl, fun u h1 h2 => by omega, Below.refl _ _⟩
  case round =>
    obtain ⟨t, hk, ht1, rfl, hall, B⟩ := hrel
    have HK := Lib.hid hk
    have HA := Lib.hid hall
    have HB := Lib.hid B
    have htt : t ≤ H + 1 := by omega
    clear hk hall B
    by_cases hlt : t ≤ H
    · have hlt' : (t : Int) ≤ H := by omega
      have hvb := dem_le ts (sv_all HSV.out).1 t
      have hvb2 : ts.length * (8 * (t + 1)) ≤ 5 * (8 * 27721) := Nat.mul_le_mul hl5 (Nat.mul_le_mul (Nat.le_refl _) (by omega))
      have hb8 : bl ts ss t ≤ 8 := blN_le8 HV.out t (Nat.le_refl _)
      have HAT := Lib.hid (fun h : dem ts t + bl ts ss t ≤ t => fun u (h1 : 1 ≤ u) (h2 : u < t + 1) => show dem ts u + bl ts ss u ≤ u from by
        by_cases e : u = t
        · subst e; exact h
        · exact HA.out u h1 (by omega))
      have HNO := Lib.hid (fun h : ¬ dem ts t + bl ts ss t ≤ t => rf_no2 (ts := ts) (ss := ss) ht1 (by rw [← HH.out]; exact hlt) h)
      obtain ⟨pb, rfl, C⟩ := summed1_demand v ts t wr (U4.out.below HB.out) HSV.out (by omega)
      have CD := Lib.hid C
      have CB := Lib.hid (fun W (hB : Below wr.heap.size wr W) => blockingTerm1_any g1 g2 g3 a sa va cap scap vcap t ts ss W ((K4.out.below HB.out).below hB) HV.out)
      obtain ⟨V, hV⟩ : ∃ V, V = dem ts t := ⟨_, rfl⟩
      obtain ⟨X, hX⟩ : ∃ X, X = bl ts ss t := ⟨_, rfl⟩
      rw [← hV] at hvb HAT HNO CD
      rw [← hX] at hb8 HAT HNO CB
      have hV2 : V ≤ 1108840 := by omega
      clear hvb hvb2 hV hX C
      go_wp2_with fail
      refine CD.out.mono ?_
      rintro e w5 ⟨rfl, n5, hw5⟩
      have b5 : Below wr.heap.size wr w5 := by rw [hw5]; exact below_drewN _ _
      have B5 := Lib.hid (HB.out.trans (b5.mono HB.out.size))
      clear hw5
      go_wp2_with fail
      refine (CB.out _ b5).mono ?_
      rintro e w6 ⟨rfl, b6⟩
      have B6 := Lib.hid (B5.out.trans (b6.mono B5.out.size))
      clear b5 b6 CD CB
      by_cases hc : V + X ≤ t
      · have hc' : ¬ (t : Int) < (V : Int) + X := by omega
        have HC := Lib.hid hc
        clear hc
        go_wp2
        go_roundg (gk - 1)
        case measure => have := HK.out; omega
        case rel => exact ⟨t + 1, by have := HK.out; omega, by omega, by go_num, HAT.out HC.out, B6.out⟩
      · have hc' : (t : Int) < (V : Int) + X := by omega
        have HC := Lib.hid hc
        clear hc
        go_wp2
        go_ret
        exact ⟨ret_bool (HNO.out HC.out).symm, B4.out.trans (B6.out.mono B4.out.size)⟩
    · have hlt' : ¬ (t : Int) ≤ H := by omega
      have HY := Lib.hid (rfB_iff.2 ⟨HV.out, fun u h1 h2 => HA.out u h1 (by rw [← HH.out] at h2; omega)⟩)
      go_wp2
      go_ret
      exact ⟨ret_bool HY.out.symm, B4.out.trans (HB.out.mono B4.out.size)⟩

end Go.Proofs.Ytlagghoohloklaa
