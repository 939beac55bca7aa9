/- What a run with servers reads as; laws.sameRun, of two runs that hold the same. Conditions: the slices hold what is said. -/
import Derived.Test.YtlkibehieekceaaSrvSpecRun
import Derived.Test.YtlkibehieekceaaSame
namespace Go.Proofs.Ytlkibehieekceaa
open Go.RowKit Go.Deep

/-- The lengths of what is returned. -/
def lN (ts : List T3) (js : List J4) (ss : List A2) (als : List (List A2)) : Nat := if okS ts js ss als = true then 120 else 0
def lM (ts : List T3) (js : List J4) (ss : List A2) (als : List (List A2)) : Nat := if okS ts js ss als = true then js.length else 0
def lS (ts : List T3) (js : List J4) (ss : List A2) (als : List (List A2)) : Nat := if okS ts js ss als = true then ss.length else 0
/-- What a run with servers reads as. -/
structure SrvIs (w : World) (C : Cb) (als : List (List A2)) (n m s : Nat) (ra fa ca sa : Option Addr) : Prop where
  r : IntF w ra n (fun u => optI (C.run u))
  f : IntF w fa m (C.fin 120)
  c : IntF w ca n (fun u => optI (C.K u))
  s : ∀ k, k < s → ∃ b off ia ic, sa = some ⟨b, off, none⟩ ∧ b < w.heap.size ∧ w.cell? ⟨b, off + k, none⟩ = some (.slice ia (als.getD k []).length ic) ∧ IntF w ia (als.getD k []).length (C.dn 120 k)
theorem SrvIs.below {w w' : World} {C : Cb} {als : List (List A2)} {n m s : Nat} {ra fa ca sa : Option Addr} (h : SrvIs w C als n m s ra fa ca sa) (hb : Below w.heap.size w w') : SrvIs w' C als n m s ra fa ca sa :=
  ⟨h.r.below hb, h.f.below hb, h.c.below hb, fun k hk => by
    obtain ⟨b, off, ia, ic, h1, h2, h3, h4⟩ := h.s k hk
    exact ⟨b, off, ia, ic, h1, Nat.lt_of_lt_of_le h2 hb.size, (hb.cell (p := ⟨b, off + k, none⟩) h2).trans h3, h4.below hb⟩⟩
theorem SrvGot.is {base : Nat} {ts : List T3} {js : List J4} {ss : List A2} {als : List (List A2)} {e : Ending} {w' : World} (h : SrvGot base ts js ss als e w') :
    ∃ (ra fa ca sa : Option Addr) (rc fc cc sc : Nat), e = .returned (.agg #[.slice ra (lN ts js ss als) rc, .slice fa (lM ts js ss als) fc, .slice ca (lN ts js ss als) cc, .slice sa (lS ts js ss als) sc]) ∧ SrvIs w' (cbOf js ss als) als (lN ts js ss als) (lM ts js ss als) (lS ts js ss als) ra fa ca sa := by
  unfold lN lM lS
  rcases h with ⟨hok, vr, vf, vc, vs, iv, rfl, hp⟩ | ⟨hok, rfl⟩
  · rw [if_pos hok, if_pos hok, if_pos hok]
    obtain ⟨ra, rc, rfl⟩ := own_shape (hp.getI (j := 0) rfl)
    obtain ⟨fa, fc, rfl⟩ := own_shape (hp.getI (j := 1) rfl)
    obtain ⟨ca, cc, rfl⟩ := own_shape (hp.getI (j := 2) rfl)
    have ho : OwnF 26 1 w' base vs ss.length iv := hp.ow 3 _ rfl
    obtain ⟨sa, sc, rfl⟩ := own_shape ho
    refine ⟨ra, fa, ca, sa, rc, fc, cc, sc, rfl, (hp.getI (j := 0) rfl).intF', (hp.getI (j := 1) rfl).intF', (hp.getI (j := 2) rfl).intF', fun k hk => ?_⟩
    obtain ⟨g, c, eg⟩ := ho.has (by omega)
    simp only [Value.slice.injEq] at eg
    obtain ⟨rfl, -, rfl⟩ := eg
    obtain ⟨q1, -, -, -, q5⟩ := ho.at
    have hi : OwnI w' base (iv k) (als.getD k []).length ((cbOf js ss als).dn 120 k) := hp.getI (j := k + 4) (insL_get hk)
    obtain ⟨ia, ic, hv⟩ := own_shape hi
    rw [hv] at hi
    exact ⟨g, 0, ia, ic, rfl, q1, by rw [Nat.zero_add, q5 k (by omega), hv], hi.intF'⟩
  · rw [if_neg (by rw [hok]; simp), if_neg (by rw [hok]; simp), if_neg (by rw [hok]; simp)]
    exact ⟨none, none, none, none, 0, 0, 0, 0, rfl, fun k hk => absurd hk (Nat.not_lt_zero _), fun k hk => absurd hk (Nat.not_lt_zero _), fun k hk => absurd hk (Nat.not_lt_zero _), fun k hk => absurd hk (Nat.not_lt_zero _)⟩

set_option maxRecDepth 100000 in
set_option maxHeartbeats 4000000 in
/-- laws.sameRun, of two runs that hold the same. -/
theorem sameRun_same {C : Cb} {als : List (List A2)} {n m s : Nat} {ra fa ca sa ra' fa' ca' sa' : Option Addr} {rc fc cc sc rc' fc' cc' sc' : Nat} (w : World) (h : SrvIs w C als n m s ra fa ca sa) (h' : SrvIs w C als n m s ra' fa' ca' sa') (hn : n ≤ 120) (hm : m ≤ 100) (hs : s ≤ 4) (hl : ∀ k, (als.getD k []).length ≤ 1048576) :
    Calls Try.prog 43 #[.agg #[.slice ra n rc, .slice fa m fc, .slice ca n cc, .slice sa s sc], .agg #[.slice ra' n rc', .slice fa' m fc', .slice ca' n cc', .slice sa' s sc']] w fun e w' =>
      e = .returned (.bool true) ∧ Below w.heap.size w w' := by
  obtain ⟨u0, hu0⟩ : ∃ u0, u0 = (w.alloc (.cells #[.slice ra n rc, .slice fa m fc, .slice ca n cc, .slice sa s sc] 66)).alloc (.cells #[.slice ra' n rc', .slice fa' m fc', .slice ca' n cc', .slice sa' s sc'] 66) := ⟨_, rfl⟩
  have B0 : Below w.heap.size w u0 := by rw [hu0]; exact (below_box _ _).alloc (by simp) _
  have sz0 : w.heap.size + 1 < u0.heap.size := by rw [hu0]; simp
  have x2 : u0.cell? ⟨w.heap.size, 2, none⟩ = some (.slice ca n cc) := by rw [hu0]; go_simp
  have x3 : u0.cell? ⟨w.heap.size, 3, none⟩ = some (.slice sa s sc) := by rw [hu0]; go_simp
  have y2 : u0.cell? ⟨w.heap.size + 1, 2, none⟩ = some (.slice ca' n cc') := by rw [hu0]; go_simp
  have y3 : u0.cell? ⟨w.heap.size + 1, 3, none⟩ = some (.slice sa' s sc') := by rw [hu0]; go_simp
  have HH := Lib.hid (And.intro (h.below B0) (h'.below B0))
  have HU := Lib.hid hu0
  have HLE := Lib.hid hl
  clear h h' hu0 hl
  go_enter Try.func43, Try.ntmps43
  go_wp2_with fail
  rw [← HU.out]
  refine (sameSchedule_same _ _ _ _ _ _ _ _ _ _ (fun u => optI (C.run u)) (C.fin 120) _ HH.out.1.r HH.out.1.f HH.out.2.r HH.out.2.f (by omega) (by omega)).mono ?_
  rintro e w1 ⟨rfl, b1⟩
  have H1 := Lib.hid (And.intro (HH.out.1.below b1) (HH.out.2.below b1))
  have B1 := Lib.hid (B0.trans (b1.mono B0.size))
  have t2 := (b1.cell (p := ⟨w.heap.size, 2, none⟩) (by show w.heap.size < _; omega)).trans x2
  have t3 := (b1.cell (p := ⟨w.heap.size, 3, none⟩) (by show w.heap.size < _; omega)).trans x3
  have v2 := (b1.cell (p := ⟨w.heap.size + 1, 2, none⟩) sz0).trans y2
  have v3 := (b1.cell (p := ⟨w.heap.size + 1, 3, none⟩) sz0).trans y3
  have sz1 : w.heap.size + 1 < w1.heap.size := Nat.lt_of_lt_of_le sz0 b1.size
  clear HH x2 x3 y2 y3 b1 B0
  go_wp2_with fail
  refine (sameInts_same _ _ _ _ _ (fun u => optI (C.K u)) _ H1.out.1.c H1.out.2.c (by omega)).mono ?_
  rintro e w2 ⟨rfl, m2, hw2⟩
  have b2 : Below w1.heap.size w1 w2 := by rw [hw2]; exact below_drewN _ _
  have H2 := Lib.hid (And.intro (H1.out.1.below b2) (H1.out.2.below b2))
  have B2 := Lib.hid (B1.out.trans (b2.mono B1.out.size))
  have s3 := (b2.cell (p := ⟨w.heap.size, 3, none⟩) (by show w.heap.size < _; omega)).trans t3
  have r3 := (b2.cell (p := ⟨w.heap.size + 1, 3, none⟩) sz1).trans v3
  have sz2 : w.heap.size + 1 < w2.heap.size := Nat.lt_of_lt_of_le sz1 b2.size
  clear hw2 b2 H1 t2 t3 v2 v3
  go_wp2
  go_loopg [5] s (fun q i wr => ∃ k : Nat, q + k = s ∧ i = .int .i64 k ∧ Below w2.heap.size w2 wr)
  case atStart => exact ⟨0, rfl, rfl, Below.refl _ _⟩
  case round =>
    obtain ⟨k, hk, rfl, B⟩ := hrel
    have HK := Lib.hid hk
    have hkk : k ≤ s := by omega
    have q3 := (B.cell (p := ⟨w.heap.size, 3, none⟩) (by show w.heap.size < _; omega)).trans s3
    have p3 := (B.cell (p := ⟨w.heap.size + 1, 3, none⟩) sz2).trans r3
    have HB := Lib.hid B
    clear hk B
    by_cases hlt : k < s
    · obtain ⟨b, off, ia, ic, rfl, -, c1, c2⟩ := (H2.out.1.below HB.out).s k hlt
      obtain ⟨b', off', ia', ic', rfl, -, d1, d2⟩ := (H2.out.2.below HB.out).s k hlt
      obtain ⟨N, hN⟩ : ∃ N, N = (als.getD k []).length := ⟨_, rfl⟩
      have hN2 : N ≤ 1048576 := by rw [hN]; exact HLE.out k
      rw [← hN] at c1 c2 d1 d2
      have HC := Lib.hid (show ∀ j, Calls Try.prog 60 #[.slice ia N ic, .slice ia' N ic'] (wr.drewN j) fun e w' => e = .returned (.bool true) ∧ ∃ m, w' = (wr.drewN j).drewN m from fun j => sameInts_same _ _ _ _ _ (C.dn 120 k) _ (c2.below (below_drewN _ _)) (d2.below (below_drewN _ _)) hN2)
      have hk0 : (0 : Int) ≤ k := by omega
      have hk1 : (k : Int) < s := by omega
      clear hN c2 d2
      go_wp2
      go_quiet ((go_at_call 60; exact quiet_drew (HC.out _)))
      go_wp2
      go_roundg (gk - 1)
      case measure => have := HK.out; omega
      case rel => exact ⟨k + 1, by have := HK.out; omega, by go_num, below_drewN' HB.out _⟩
    · obtain rfl : k = s := by omega
      go_wp2
      go_ret
      exact ⟨rfl, B2.out.trans (HB.out.mono B2.out.size)⟩

end Go.Proofs.Ytlkibehieekceaa
