/- Contracts of the program's simulation with the stack resource policy, part 3: runTop. Conditions: the cells hold what is said; valid arguments. -/
import Derived.Test.YtlagghoohloklaaResBase
namespace Go.Proofs.Ytlagghoohloklaa
open Go.RowKit Go.Deep
variable {w wr w' : World} {X : RX} {ts ss : List T3} {js : List J4} {nx : Nat} {fd fr ff : Nat → Int} {vst : Value} {ns : Nat} {fs : Nat → Nat} {vh : Value} {nh : Nat} {fh : Nat → Nat} {v : Value} {m : Nat} {f : Nat → Nat} {R c : Nat} {ja : Option Addr} {jcap : Nat} {its : List It} {n : Nat}

/-- A struct more, in a new block. -/
theorem RS.addB (h : RS w wr R c ja jcap js its v n f) (t : TypeId) (cs : Array Value) (F : Nat → Value) (hm : cs.size ≤ 1000) (e : ∀ k, k < cs.size → cs[k]? = some (F k)) : RS w (wr.alloc (.cells cs t)) R c ja jcap js (its ++ [itB t cs.size wr.heap.size F]) v n f := by
  have hb := below_box wr (.cells cs t)
  refine h.turn (h.ps.addB t cs F hm e) (fun k hk => hb.block k (h.ublt hk)) fun j i hi => ?_
  by_cases hj : j < its.length
  · rw [List.getElem?_append_left hj] at hi
    exact h.ap j i hi
  · have hl := (List.getElem?_eq_some_iff.1 hi).1
    simp at hl
    obtain rfl : j = its.length := by omega
    simp at hi
    subst hi
    have hR := h.R_lt
    have hc := h.cR
    refine ⟨fun e => ?_, fun e => ?_, fun k hk hv => ?_⟩
    · have e' : some wr.heap.size = some R := e
      simp only [Option.some.injEq] at e'
      omega
    · have e' : some wr.heap.size = some c := e
      simp only [Option.some.injEq] at e'
      omega
    · have e' : some wr.heap.size = some k := hk
      simp only [Option.some.injEq] at e'
      have := (h.own.lt k hv).2
      omega
/-- The last item is let go. -/
theorem RS.less {i : It} (h : RS w wr R c ja jcap js (its ++ [i]) v n f) : RS w wr R c ja jcap js its v n f := by
  have hg : ∀ (j : Nat) (b : It), its[j]? = some b → (its ++ [i])[j]? = some b := fun j b hb => by
    rw [List.getElem?_append_left (List.getElem?_eq_some_iff.1 hb).1]
    exact hb
  exact h.turn ⟨h.ps.be, fun j b hb => h.ps.pl.ow j b (hg j b hb), fun j k a b hne ha hb => h.ps.pl.ap j k a b hne (hg j a ha) (hg k b hb)⟩ (fun _ _ => rfl) fun j b hb => h.ap j b (hg j b hb)
theorem ne_items {w wr : World} {its : List It} {j k g g' n n' cap cap' : Nat} {f f' : Nat → Int} (h : PS w wr its) (hj : its[j]? = some (itN (.slice (some ⟨g, 0, none⟩) n cap) n f)) (hk : its[k]? = some (itN (.slice (some ⟨g', 0, none⟩) n' cap') n' f')) (hne : j ≠ k) : g ≠ g' := fun e => h.pl.ap j k _ _ hne hj hk g rfl (by show some g' = some g; rw [e])
/-- A section's cells. -/
def F3s (T L Z : Nat) : Nat → Value
  | 0 => .int .i64 (T : Int)
  | 1 => .int .i64 (L : Int)
  | _ => .int .i64 (Z : Int)
/-- In the midst of a tick: the section lies in a block of its own. -/
def Md (w : World) (X : RX) (ts ss : List T3) (js : List J4) (wr : World) (nx : Nat) (fd fr ff : Nat → Int) (vst : Value) (ns : Nat) (fs : Nat → Nat) (vh : Value) (nh : Nat) (fh : Nat → Nat) (v : Value) (m : Nat) (f : Nat → Nat) (b T L Z : Nat) : Prop :=
  RS w wr X.R X.c X.ja X.jcap js (X.its ts ss js.length ts.length ss.length nx fd fr ff vst ns (cN fs) vh nh (cN fh) ++ [itB 39 3 b (F3s T L Z)]) v m f
theorem Stk.idle {S : Srp} {t : Nat} {L HL : List Nat} (h : Stk S t L HL) (hr : S.gen.run t = none) : Stk S (t + 1) L HL := by
  have e : S.gen.left (t + 1) = S.gen.left t := by
    funext i
    rw [Gen.left_succ, if_neg (by rw [hr]; simp)]
  exact ⟨fun x => by rw [h.mem x, e], h.srt, by rw [e]; exact h.hl⟩
/-- Who holds after the tick. -/
theorem held_next {S : Srp} {t j : Nat} (hr : S.gen.run t = some j) : S.held (S.gen.left (t + 1)) j ↔ 0 < S.ln j ∧ S.st j < S.ex j - (S.gen.left t j - 1) ∧ S.ex j - (S.gen.left t j - 1) < S.st j + S.ln j ∧ 0 < S.gen.left t j - 1 := by
  unfold Srp.held
  rw [Gen.left_succ, if_pos hr]
/-- The tick of the job on top. -/
theorem tick_next {S : Srp} {t q : Nat} {fs fh' : Nat → Nat} {nh' : Nat} {HL : List Nat} (h : OnT S t (fs q) (stk fs q) HL) (e : stk fh' nh' = if S.held (S.gen.left (t + 1)) (fs q) then S.res (fs q) :: S.hold (S.gen.left t) (stk fs q) else S.hold (S.gen.left t) (stk fs q)) :
    (S.gen.left t (fs q) = 1 → Stk S (t + 1) (stk fs q) (stk fh' nh')) ∧ (S.gen.left t (fs q) ≠ 1 → Stk S (t + 1) (stk fs (q + 1)) (stk fh' nh')) := by
  have h1 := h.next
  rw [← e] at h1
  exact ⟨fun h2 => by rw [if_pos h2] at h1; exact h1, fun h2 => by rw [if_neg h2] at h1; exact h1⟩

set_option maxRecDepth 100000 in
set_option maxHeartbeats 4000000 in
/-- impl.resourceRun.runTop. -/
theorem runTop_any (hA : Arg w X ts ss js) {t : Nat} (ht : t < 120) (h : Sim w X ts ss js wr nx (dnF (srpP ts ss js).gen t) (rnF ts ss js t) ((srpP ts ss js).gen.fin t) vst ns fs vh nh fh v m f) (hM : MidOk (srpP ts ss js) t ns fs nh fh) (hns : ns ≤ t + 1) (hnh : nh ≤ t) :
    Calls Try.prog 51 #[.pointer (some ⟨X.B, 0, none⟩), .int .i64 (t : Int)] wr fun e w' =>
      e = .returned (.tuple #[]) ∧ ∃ vst' ns' fs' vh' nh' fh', Sim w X ts ss js w' nx (dnF (srpP ts ss js).gen (t + 1)) (rnF ts ss js (t + 1)) ((srpP ts ss js).gen.fin (t + 1)) vst' ns' fs' vh' nh' fh' v m f ∧ Stk (srpP ts ss js) (t + 1) (stk fs' ns') (stk fh' nh') ∧ ns' ≤ t + 1 ∧ nh' ≤ t + 1 := by
  obtain ⟨a, cap, sa, scap, ja, jcap, gc, cc, gd, gr, cr, fa, fc, R, c, B⟩ := X
  have HA := Lib.hid hA
  have HH := Lib.hid h
  clear h hA
  simp only
  obtain ⟨vsa, vscap, rfl⟩ := own_shape (HH.out.ps.getN (j := 5) rfl)
  have c6 := HH.out.ps.cell (j := 0) rfl 6 (by decide)
  simp only [RX.F] at c6
  rcases hM with ⟨rfl, hr, hS⟩ | ⟨q, rfl, hT⟩
  · have HFIN := Lib.hid (show Sim w ⟨a, cap, sa, scap, ja, jcap, gc, cc, gd, gr, cr, fa, fc, R, c, B⟩ ts ss js wr nx (dnF (srpP ts ss js).gen (t + 1)) (rnF ts ss js (t + 1)) ((srpP ts ss js).gen.fin (t + 1)) (.slice vsa 0 vscap) 0 fs vh nh fh v m f from
      ((HH.out.congrN (j := 2) (a' := dnF (srpP ts ss js).gen (t + 1)) rfl (fun i _ => by unfold dnF; rw [Gen.left_succ, if_neg (by rw [hr]; simp)])).congrN (j := 3) (a' := rnF ts ss js (t + 1)) rfl (fun k _ => by
        unfold rnF
        by_cases e : k = t
        · subst e; rw [if_neg (Nat.lt_irrefl k), if_pos (Nat.lt_succ_self k)]; unfold srpF; rw [hr]; rfl
        · by_cases e2 : k < t
          · rw [if_pos e2, if_pos (by omega)]
          · rw [if_neg e2, if_neg (by omega)])).congrN (j := 4) (a' := (srpP ts ss js).gen.fin (t + 1)) rfl (fun i _ => by rw [Gen.fin_succ, if_neg (by rw [hr]; simp)]))
    have HST := Lib.hid (show Stk (srpP ts ss js) (t + 1) (stk fs 0) (stk fh nh) from hS.idle hr)
    clear hr hS HA
    go_enter Try.func51, Try.ntmps51
    go_wp2
    exact bodyPost_ret (v := .tuple #[]) (by simp [results, Try.results51, go_sem]) rfl ⟨rfl, _, 0, fs, vh, nh, fh, HFIN.out, HST.out, by omega, by omega⟩
  · have HT := Lib.hid hT
    obtain ⟨kn, krel, kl⟩ := (srpP ts ss js).fair t (fs q) hT.run
    have kn : fs q < js.length := kn
    have hSC := (okR_iff.1 HA.out.ok).1
    have hLG := (okR_iff.1 HA.out.ok).2
    have hnat := leg_nat hLG kn
    have hidn : jid js (fs q) < ts.length := hnat.1
    have hids : jid js (fs q) < ss.length := by have := (scB_iff.1 hSC).2.1; omega
    have hsec := sc_nat hSC hidn
    have hle := (srpP ts ss js).gen.left_ex t (fs q)
    have hx : (srpP ts ss js).gen.ex (fs q) = jex js (fs q) := rfl
    rw [hx] at hle
    have h60 := (legB_iff.1 hLG).2.1
    -- the numbers
    have hT8 : sst ss (jid js (fs q)) ≤ 8 := by omega
    have hL8 : sln ss (jid js (fs q)) ≤ 8 := by omega
    have hex8 : jex js (fs q) ≤ 8 := by omega
    have HDN := Lib.hid (show ∀ i, i < js.length → (if i = fs q then (((jex js (fs q) - (srpP ts ss js).gen.left t (fs q) : Nat) : Int) + 1) else dnF (srpP ts ss js).gen t i) = dnF (srpP ts ss js).gen (t + 1) i from fun i _ => by
      by_cases e : i = fs q
      · subst e
        rw [if_pos rfl]
        unfold dnF
        rw [Gen.left_succ, if_pos hT.run, hx]
        omega
      · rw [if_neg e]; unfold dnF; rw [Gen.left_succ, if_neg (by rw [hT.run]; simpa using fun h => e h.symm)])
    have HFI := Lib.hid (show ∀ i, i < js.length → (if i = fs q then (if (srpP ts ss js).gen.left t (fs q) = 1 then (t : Int) + 1 else (srpP ts ss js).gen.fin t (fs q)) else (srpP ts ss js).gen.fin t i) = (srpP ts ss js).gen.fin (t + 1) i from fun i _ => by
      rw [Gen.fin_succ]
      by_cases e : i = fs q
      · subst e
        have hlk : (srpP ts ss js).gen.left (t + 1) (fs q) = (srpP ts ss js).gen.left t (fs q) - 1 := by rw [Gen.left_succ, if_pos hT.run]
        rw [if_pos rfl]
        by_cases e1 : (srpP ts ss js).gen.left t (fs q) = 1
        · rw [if_pos e1, if_pos ⟨hT.run, by omega⟩]
        · rw [if_neg e1, if_neg (by rintro ⟨_, h⟩; omega)]
      · rw [if_neg e, if_neg (by rw [hT.run]; rintro ⟨h, _⟩; exact e (Option.some.inj h).symm)])
    have HRN := Lib.hid (show ∀ k, k < 120 → (if k = t then ((fs q : Nat) : Int) else rnF ts ss js t k) = rnF ts ss js (t + 1) k from fun k _ => by
      unfold rnF
      by_cases e : k = t
      · subst e; rw [if_pos rfl, if_pos (Nat.lt_succ_self k)]; unfold srpF; rw [hT.run]; rfl
      · rw [if_neg e]
        by_cases e2 : k < t
        · rw [if_pos e2, if_pos (by omega)]
        · rw [if_neg e2, if_neg (by omega)])
    -- the held stack: before and after
    have HB4 := Lib.hid (show stk fh nh = if 0 < sln ss (jid js (fs q)) ∧ sst ss (jid js (fs q)) < jex js (fs q) - (srpP ts ss js).gen.left t (fs q) ∧ jex js (fs q) - (srpP ts ss js).gen.left t (fs q) < sst ss (jid js (fs q)) + sln ss (jid js (fs q)) then srs ss (jid js (fs q)) :: (srpP ts ss js).hold ((srpP ts ss js).gen.left t) (stk fs q) else (srpP ts ss js).hold ((srpP ts ss js).gen.left t) (stk fs q) from by
      rw [hT.hl, Srp.hold_cons]
      by_cases hh : (srpP ts ss js).held ((srpP ts ss js).gen.left t) (fs q)
      · rw [if_pos hh, if_pos ⟨hh.1, hh.2.1, hh.2.2.1⟩]; rfl
      · rw [if_neg hh, if_neg (fun h => hh ⟨h.1, h.2.1, h.2.2, kl⟩)])
    have HAF := Lib.hid (show ∀ (nh' : Nat) (fh' : Nat → Nat), (stk fh' nh' = if 0 < sln ss (jid js (fs q)) ∧ sst ss (jid js (fs q)) ≤ jex js (fs q) - (srpP ts ss js).gen.left t (fs q) ∧ jex js (fs q) - (srpP ts ss js).gen.left t (fs q) + 1 < sst ss (jid js (fs q)) + sln ss (jid js (fs q)) ∧ 1 < (srpP ts ss js).gen.left t (fs q) then srs ss (jid js (fs q)) :: (srpP ts ss js).hold ((srpP ts ss js).gen.left t) (stk fs q) else (srpP ts ss js).hold ((srpP ts ss js).gen.left t) (stk fs q)) →
        ((srpP ts ss js).gen.left t (fs q) = 1 → Stk (srpP ts ss js) (t + 1) (stk fs q) (stk fh' nh')) ∧ ((srpP ts ss js).gen.left t (fs q) ≠ 1 → Stk (srpP ts ss js) (t + 1) (stk fs (q + 1)) (stk fh' nh')) from fun nh' fh' e => tick_next hT (by
      have hn := held_next (S := srpP ts ss js) hT.run
      have e1 : (srpP ts ss js).ln (fs q) = sln ss (jid js (fs q)) := rfl
      have e2 : (srpP ts ss js).st (fs q) = sst ss (jid js (fs q)) := rfl
      have e3 : (srpP ts ss js).ex (fs q) = jex js (fs q) := rfl
      rw [e1, e2, e3] at hn
      rw [e]
      by_cases hh : (srpP ts ss js).held ((srpP ts ss js).gen.left (t + 1)) (fs q)
      · rw [if_pos hh, if_pos (by have := hn.1 hh; omega)]; rfl
      · rw [if_neg hh, if_neg (fun h => hh (hn.2 (by omega)))]))
    obtain ⟨gs, rfl⟩ := own_some' (HH.out.ps.getN (j := 5) rfl) (by omega)
    obtain ⟨gf, rfl⟩ := own_some' (HH.out.ps.getN (j := 4) rfl) (by omega)
    obtain ⟨vha, vhcap, rfl⟩ := own_shape (HH.out.ps.getN (j := 6) rfl)
    have t0 := (HH.out.ps.atN (j := 5) (k := q) rfl (by omega)).1
    unfold cN at t0
    have c1 := HH.out.ps.cell (j := 0) rfl 1 (by decide)
    have c2 := HH.out.ps.cell (j := 0) rfl 2 (by decide)
    have c8 := HH.out.ps.cell (j := 0) rfl 8 (by decide)
    simp only [RX.F] at c1 c2 c8
    have d0 := (HH.out.ps.atN (j := 2) (k := fs q) rfl kn).1
    have e0 : dnF (srpP ts ss js).gen t (fs q) = ((jex js (fs q) - (srpP ts ss js).gen.left t (fs q) : Nat) : Int) := rfl
    rw [e0] at d0
    obtain ⟨bj, oj, rfl, hbj, x0, -, -, x3⟩ := (HA.out.j.below HH.out.ps.be) (fs q) kn
    obtain ⟨bs, os, rfl, hbs, y0, y1, y2⟩ := (HA.out.s.below HH.out.ps.be).tk hids
    rw [hnat.2.2.2.2.2.1] at x0
    rw [hnat.2.2.2.2.2.2.2.2] at x3
    rw [hsec.1] at y0
    rw [hsec.2.1] at y1
    rw [hsec.2.2.1] at y2
    have hZ3 : srs ss (jid js (fs q)) ≤ 2 := hsec.2.2.2.2.2.2.1
    have HEX := Lib.hid (show ∀ W, Below w.heap.size w W → W.cell? ⟨bj, oj + fs q * 4 + 3, none⟩ = some (.int .i64 ((jex js (fs q) : Nat) : Int)) from fun W hB => by
      obtain ⟨b', o', e, -, -, -, -, x⟩ := (HA.out.j.below hB) (fs q) kn
      simp only [Option.some.injEq, Addr.mk.injEq, and_true] at e
      obtain ⟨rfl, rfl⟩ := e
      rw [x, hnat.2.2.2.2.2.2.2.2])
    have HD0 := Lib.hid e0
    clear hnat hsec hSC hLG hx e0 krel hT x3
    obtain ⟨j, hj⟩ : ∃ j, j = fs q := ⟨_, rfl⟩
    rw [← hj] at kn hidn hids hle kl hT8 hL8 hex8 HDN HFI HRN HB4 HAF d0 x0 y0 y1 y2 HEX t0 hZ3 HD0
    obtain ⟨I, hI⟩ : ∃ I, I = jid js j := ⟨_, rfl⟩
    rw [← hI] at hidn hids hT8 hL8 HB4 HAF x0 y0 y1 y2 hZ3
    obtain ⟨T, hTT⟩ : ∃ T, T = sst ss I := ⟨_, rfl⟩
    rw [← hTT] at hT8 HB4 HAF y0
    obtain ⟨L, hLL⟩ : ∃ L, L = sln ss I := ⟨_, rfl⟩
    rw [← hLL] at hL8 HB4 HAF y1
    obtain ⟨Z, hZZ⟩ : ∃ Z, Z = srs ss I := ⟨_, rfl⟩
    rw [← hZZ] at HB4 HAF y2 hZ3
    obtain ⟨E, hE⟩ : ∃ E, E = jex js j := ⟨_, rfl⟩
    rw [← hE] at hle hex8 HDN HB4 HAF d0 HEX HD0
    obtain ⟨G, hG⟩ : ∃ G, G = (srpP ts ss js).gen.left t j := ⟨_, rfl⟩
    rw [← hG] at hle kl HDN HFI HB4 HAF d0 HD0
    obtain ⟨D, hD⟩ : ∃ D, D = E - G := ⟨_, rfl⟩
    rw [← hD] at HDN HB4 HAF d0 HD0
    have hDG : D + G = E := by omega
    have HJQ := Lib.hid hj
    have hBl : B < wr.heap.size := (HH.out.ps.lt (j := 0) rfl).2
    clear hI hTT hLL hZZ hE hG hD hle hj
    have hj0 : (0 : Int) ≤ j := by omega
    have hj1 : (j : Int) < js.length := by omega
    have hI0 : (0 : Int) ≤ I := by omega
    have hI1 : (I : Int) < ss.length := by omega
    have ht0 : (0 : Int) ≤ t := by omega
    have ht1 : (t : Int) < 120 := by omega
    have hqz : (((q + 1 : Nat) : Int) == 0) = false := beq_eq_false_iff_ne.2 (by omega)
    have HS0 := Lib.hid (HH.out.addB 39 #[.int .i64 (T : Int), .int .i64 (L : Int), .int .i64 (Z : Int)] (F3s T L Z) (by simp) (fun k hk => by
      match k, hk with
      | 0, _ | 1, _ | 2, _ => rfl))
    obtain ⟨W, hW⟩ : ∃ W, W = wr.alloc (.cells #[.int .i64 (T : Int), .int .i64 (L : Int), .int .i64 (Z : Int)] 39) := ⟨_, rfl⟩
    rw [← hW] at HS0
    have HWE := Lib.hid hW
    clear hW
    go_enter Try.func51, Try.ntmps51
    go_wp2_with fail
    refine (top_any gs q _ (j : Int) _ (by omega) t0).mono ?_
    rintro e w1 ⟨rfl, rfl⟩
    clear t0
    go_wp2
    go_region
    rw [← HWE.out]
    obtain ⟨b5, hb5⟩ : ∃ b5, b5 = wr.heap.size := ⟨_, rfl⟩
    rw [← hb5] at HS0 ⊢
    clear c1 c2 c8 c6 d0 x0 y0 y1 y2 hbj hbs hBl HWE hb5
    have H0 := Lib.hid (show Md w ⟨a, cap, some ⟨bs, os, none⟩, scap, some ⟨bj, oj, none⟩, jcap, gc, cc, gd, gr, cr, some ⟨gf, 0, none⟩, fc, R, c, B⟩ ts ss js W nx (dnF (srpP ts ss js).gen t) (rnF ts ss js t) ((srpP ts ss js).gen.fin t) (.slice (some ⟨gs, 0, none⟩) (q + 1) vscap) (q + 1) fs (.slice vha nh vhcap) nh fh v m f b5 T L Z from HS0.out)
    clear HS0
    have H1 := Lib.hid (show Md w ⟨a, cap, some ⟨bs, os, none⟩, scap, some ⟨bj, oj, none⟩, jcap, gc, cc, gd, gr, cr, some ⟨gf, 0, none⟩, fc, R, c, B⟩ ts ss js W.drew nx (dnF (srpP ts ss js).gen t) (rnF ts ss js t) ((srpP ts ss js).gen.fin t) (.slice (some ⟨gs, 0, none⟩) (q + 1) vscap) (q + 1) fs (.slice vha nh vhcap) nh fh v m f b5 T L Z from H0.out.below (Below.refl _ _).drew)
    have H1b := Lib.hid (show Md w ⟨a, cap, some ⟨bs, os, none⟩, scap, some ⟨bj, oj, none⟩, jcap, gc, cc, gd, gr, cr, some ⟨gf, 0, none⟩, fc, R, c, B⟩ ts ss js W.drew.drew nx (dnF (srpP ts ss js).gen t) (rnF ts ss js t) ((srpP ts ss js).gen.fin t) (.slice (some ⟨gs, 0, none⟩) (q + 1) vscap) (q + 1) fs (.slice vha nh vhcap) nh fh v m f b5 T L Z from H1.out.below (Below.refl _ _).drew)
    have c8 := H0.out.ps.cell (j := 0) rfl 8 (by decide)
    simp only [RX.F] at c8
    have p0 := H0.out.ps.cell (j := 7) rfl 0 (by decide)
    have p1 := H0.out.ps.cell (j := 7) rfl 1 (by decide)
    have p2 := H0.out.ps.cell (j := 7) rfl 2 (by decide)
    simp only [F3s] at p0 p1 p2
    have d0 := (H0.out.ps.atN (j := 2) (k := j) rfl kn).1
    rw [HD0.out] at d0
    go_wp2
    refine wp_region_still_tail 8 (by kernel_rfl) (by kernel_rfl) ?_
    simp only [List.take_succ_cons, List.take_zero, List.drop_succ_cons, List.drop_zero]
    change wpStill _ _ W.drew.drew (fun a' => wpList _ _ _ _ a' W.drew.drew) _ _
    iterate 8 still_step
    refine wpStill_nil ?_
    go_wp2_with fail
    refine (covers_any T L Z D _ (by omega) (by omega)).mono ?_
    rintro e w2 ⟨rfl, b2⟩
    have H2 := Lib.hid (show Md w ⟨a, cap, some ⟨bs, os, none⟩, scap, some ⟨bj, oj, none⟩, jcap, gc, cc, gd, gr, cr, some ⟨gf, 0, none⟩, fc, R, c, B⟩ ts ss js w2 nx (dnF (srpP ts ss js).gen t) (rnF ts ss js t) ((srpP ts ss js).gen.fin t) (.slice (some ⟨gs, 0, none⟩) (q + 1) vscap) (q + 1) fs (.slice vha nh vhcap) nh fh v m f b5 T L Z from H1b.out.below b2)
    clear c8 p0 p1 p2 d0 b2 H0 H1 H1b
    have c8 := H2.out.ps.cell (j := 0) rfl 8 (by decide)
    simp only [RX.F] at c8
    have p0 := H2.out.ps.cell (j := 7) rfl 0 (by decide)
    have p2 := H2.out.ps.cell (j := 7) rfl 2 (by decide)
    simp only [F3s] at p0 p2
    have d0 := (H2.out.ps.atN (j := 2) (k := j) rfl kn).1
    rw [HD0.out] at d0
    cases hcv : cvB T L D with
    | false =>
      have HCV := Lib.hid (of_decide_eq_false hcv)
      clear hcv
      go_wp2
      go_quiet (fail)
      clear c8 p0 p2 d0
      obtain ⟨V5, hV5⟩ : ∃ V5, V5 = w2.drewN nq := ⟨_, rfl⟩
      rw [← hV5]
      have H5 := Lib.hid (show Md w ⟨a, cap, some ⟨bs, os, none⟩, scap, some ⟨bj, oj, none⟩, jcap, gc, cc, gd, gr, cr, some ⟨gf, 0, none⟩, fc, R, c, B⟩ ts ss js V5 nx (dnF (srpP ts ss js).gen t) (rnF ts ss js t) ((srpP ts ss js).gen.fin t) (.slice (some ⟨gs, 0, none⟩) (q + 1) vscap) (q + 1) fs (.slice vha nh vhcap) nh fh v m f b5 T L Z from by rw [hV5]; exact H2.out.below (below_drewN _ _))
      clear hV5
      clear H2
      have c9 := H5.out.ps.cell (j := 0) rfl 9 (by decide)
      have c8 := H5.out.ps.cell (j := 0) rfl 8 (by decide)
      simp only [RX.F] at c9 c8
      obtain ⟨g1, g2, g3, -⟩ := H5.out.ps.atN (j := 3) (k := t) rfl ht
      obtain ⟨g4, g5, g6, -⟩ := H5.out.ps.atN (j := 2) (k := j) rfl kn
      rw [HD0.out] at g4
      have m1 := H5.out.ps.neN (j := 0) (k := 3) rfl rfl (by decide)
      have m2 : ¬ B = gr := m1
      have m3 : ¬ gr = B := fun e => m1 e.symm
      have m4 := ne_items H5.out.ps (j := 2) (k := 3) rfl rfl (by decide)
      have m5 : ¬ gd = gr := m4
      have m6 : ¬ gr = gd := fun e => m4 e.symm
      have h6 : Md w ⟨a, cap, some ⟨bs, os, none⟩, scap, some ⟨bj, oj, none⟩, jcap, gc, cc, gd, gr, cr, some ⟨gf, 0, none⟩, fc, R, c, B⟩ ts ss js ((V5.setCell ⟨gr, t, none⟩ (.int .i64 (j : Int))).setCell ⟨gd, j, none⟩ (.int .i64 ((D : Int) + 1))) nx (dnF (srpP ts ss js).gen (t + 1)) (rnF ts ss js (t + 1)) ((srpP ts ss js).gen.fin t) (.slice (some ⟨gs, 0, none⟩) (q + 1) vscap) (q + 1) fs (.slice vha nh vhcap) nh fh v m f b5 T L Z := (H5.out.setN (j := 3) (x := (j : Int)) (a' := rnF ts ss js (t + 1)) rfl ht HRN.out).setN (j := 2) (x := (D : Int) + 1) (a' := dnF (srpP ts ss js).gen (t + 1)) rfl kn HDN.out
      go_wp2
      obtain ⟨V6, hV6⟩ : ∃ V6, V6 = ((V5.setCell ⟨gr, t, none⟩ (.int .i64 (j : Int))).setCell ⟨gd, j, none⟩ (.int .i64 ((D : Int) + 1))) := ⟨_, rfl⟩
      rw [← hV6] at h6 ⊢
      have H6 := Lib.hid h6
      clear hV6 h6 m1 m2 m3 m4 m5 m6 g1 g2 g3 g4 g5 g6 c8 c9 H5
      have HD1 := Lib.hid (show dnF (srpP ts ss js).gen (t + 1) j = (D : Int) + 1 from by
        have h := HDN.out j kn
        rw [if_pos rfl] at h
        exact h.symm)
      have c8 := H6.out.ps.cell (j := 0) rfl 8 (by decide)
      have c2 := H6.out.ps.cell (j := 0) rfl 2 (by decide)
      simp only [RX.F] at c8 c2
      have d1 := (H6.out.ps.atN (j := 2) (k := j) rfl kn).1
      rw [HD1.out] at d1
      have x3 := HEX.out _ H6.out.ps.be
      by_cases hf : G = 1
      · have hqf : ((D : Int) + 1 == (E : Int)) = true := beq_iff_eq.2 (by omega)
        have HFF := Lib.hid (show ∀ i, i < js.length → (if i = j then (t : Int) + 1 else (srpP ts ss js).gen.fin t i) = (srpP ts ss js).gen.fin (t + 1) i from fun i hi => by
          have h := HFI.out i hi
          rw [if_pos hf] at h
          exact h)
        go_quiet (fail)
        obtain ⟨V7, hV7⟩ : ∃ V7, V7 = V6.drewN nq := ⟨_, rfl⟩
        rw [← hV7]
        have H7 := Lib.hid (show Md w ⟨a, cap, some ⟨bs, os, none⟩, scap, some ⟨bj, oj, none⟩, jcap, gc, cc, gd, gr, cr, some ⟨gf, 0, none⟩, fc, R, c, B⟩ ts ss js V7 nx (dnF (srpP ts ss js).gen (t + 1)) (rnF ts ss js (t + 1)) ((srpP ts ss js).gen.fin t) (.slice (some ⟨gs, 0, none⟩) (q + 1) vscap) (q + 1) fs (.slice vha nh vhcap) nh fh v m f b5 T L Z from by rw [hV7]; exact H6.out.below (below_drewN _ _))
        clear hV7 c8 c2 d1 x3 H6
        go_wp2
        go_quiet (fail)
        obtain ⟨V8, hVV⟩ : ∃ V8, V8 = V7.drewN nq := ⟨_, rfl⟩
        rw [← hVV]
        have H8a := Lib.hid (show Md w ⟨a, cap, some ⟨bs, os, none⟩, scap, some ⟨bj, oj, none⟩, jcap, gc, cc, gd, gr, cr, some ⟨gf, 0, none⟩, fc, R, c, B⟩ ts ss js V8 nx (dnF (srpP ts ss js).gen (t + 1)) (rnF ts ss js (t + 1)) ((srpP ts ss js).gen.fin t) (.slice (some ⟨gs, 0, none⟩) (q + 1) vscap) (q + 1) fs (.slice vha nh vhcap) nh fh v m f b5 T L Z from by rw [hVV]; exact H7.out.below (below_drewN _ _))
        clear hVV H7
        have c10 := H8a.out.ps.cell (j := 0) rfl 10 (by decide)
        have c6 := H8a.out.ps.cell (j := 0) rfl 6 (by decide)
        simp only [RX.F] at c10 c6
        obtain ⟨z1, z2, z3, -⟩ := H8a.out.ps.atN (j := 4) (k := j) rfl kn
        have n1 := H8a.out.ps.neN (j := 0) (k := 4) rfl rfl (by decide)
        have n2 : ¬ B = gf := n1
        have n3 : ¬ gf = B := fun e => n1 e.symm
        have H9 := Lib.hid (show Md w ⟨a, cap, some ⟨bs, os, none⟩, scap, some ⟨bj, oj, none⟩, jcap, gc, cc, gd, gr, cr, some ⟨gf, 0, none⟩, fc, R, c, B⟩ ts ss js (V8.setCell ⟨gf, j, none⟩ (.int .i64 ((t : Int) + 1))) nx (dnF (srpP ts ss js).gen (t + 1)) (rnF ts ss js (t + 1)) ((srpP ts ss js).gen.fin (t + 1)) (.slice (some ⟨gs, 0, none⟩) (q + 1) vscap) (q + 1) fs (.slice vha nh vhcap) nh fh v m f b5 T L Z from H8a.out.setN (j := 4) (x := (t : Int) + 1) (a' := (srpP ts ss js).gen.fin (t + 1)) rfl kn HFF.out)
        go_wp2_with fail
        refine (stPop_any (i := 0) (j := 5) (F' := RX.F ⟨a, cap, some ⟨bs, os, none⟩, scap, some ⟨bj, oj, none⟩, jcap, gc, cc, gd, gr, cr, some ⟨gf, 0, none⟩, fc, R, c, B⟩ ts.length ss.length js.length nx (.slice (some ⟨gs, 0, none⟩) q vscap) (.slice vha nh vhcap)) H9.out rfl (by decide) rfl (by decide) rfl (by omega) (fun k hk => RX.F6 _ _ _ _ _ _ _ _ k hk)).mono ?_
        rintro e w9 ⟨rfl, h9⟩
        have HE := Lib.hid (show Md w ⟨a, cap, some ⟨bs, os, none⟩, scap, some ⟨bj, oj, none⟩, jcap, gc, cc, gd, gr, cr, some ⟨gf, 0, none⟩, fc, R, c, B⟩ ts ss js w9 nx (dnF (srpP ts ss js).gen (t + 1)) (rnF ts ss js (t + 1)) ((srpP ts ss js).gen.fin (t + 1)) (.slice (some ⟨gs, 0, none⟩) q vscap) q fs (.slice vha nh vhcap) nh fh v m f b5 T L Z from h9)
        have HST := Lib.hid (show Stk (srpP ts ss js) (t + 1) (stk fs q) (stk fh (nh)) from (HAF.out (nh) fh (by have := HCV.out; rw [HB4.out, if_neg (by omega), if_neg (by omega)])).1 hf)
        clear h9 HAF HB4 HFI HDN HRN H9
        go_wp2
        go_end0
        exact ⟨rfl, _, q, fs, (.slice vha nh vhcap), nh, fh, HE.out.less, HST.out, by omega, by omega⟩
      · have hqf : ((D : Int) + 1 == (E : Int)) = false := beq_eq_false_iff_ne.2 (by omega)
        have HFF := Lib.hid (show ∀ i, i < js.length → (srpP ts ss js).gen.fin t i = (srpP ts ss js).gen.fin (t + 1) i from fun i hi => by
          have h := HFI.out i hi
          rw [if_neg hf] at h
          rw [← h]
          by_cases e : i = j
          · subst e; rw [if_pos rfl]
          · rw [if_neg e])
        go_quiet (fail)
        obtain ⟨V7, hV7⟩ : ∃ V7, V7 = V6.drewN nq := ⟨_, rfl⟩
        rw [← hV7]
        have H7 := Lib.hid (show Md w ⟨a, cap, some ⟨bs, os, none⟩, scap, some ⟨bj, oj, none⟩, jcap, gc, cc, gd, gr, cr, some ⟨gf, 0, none⟩, fc, R, c, B⟩ ts ss js V7 nx (dnF (srpP ts ss js).gen (t + 1)) (rnF ts ss js (t + 1)) ((srpP ts ss js).gen.fin t) (.slice (some ⟨gs, 0, none⟩) (q + 1) vscap) (q + 1) fs (.slice vha nh vhcap) nh fh v m f b5 T L Z from by rw [hV7]; exact H6.out.below (below_drewN _ _))
        clear hV7 c8 c2 d1 x3 H6
        go_wp2
        go_quiet (fail)
        obtain ⟨V8, hVV⟩ : ∃ V8, V8 = V7.drewN nq := ⟨_, rfl⟩
        rw [← hVV]
        have H8a := Lib.hid (show Md w ⟨a, cap, some ⟨bs, os, none⟩, scap, some ⟨bj, oj, none⟩, jcap, gc, cc, gd, gr, cr, some ⟨gf, 0, none⟩, fc, R, c, B⟩ ts ss js V8 nx (dnF (srpP ts ss js).gen (t + 1)) (rnF ts ss js (t + 1)) ((srpP ts ss js).gen.fin t) (.slice (some ⟨gs, 0, none⟩) (q + 1) vscap) (q + 1) fs (.slice vha nh vhcap) nh fh v m f b5 T L Z from by rw [hVV]; exact H7.out.below (below_drewN _ _))
        clear hVV H7
        have HE := Lib.hid (show Md w ⟨a, cap, some ⟨bs, os, none⟩, scap, some ⟨bj, oj, none⟩, jcap, gc, cc, gd, gr, cr, some ⟨gf, 0, none⟩, fc, R, c, B⟩ ts ss js V8 nx (dnF (srpP ts ss js).gen (t + 1)) (rnF ts ss js (t + 1)) ((srpP ts ss js).gen.fin (t + 1)) (.slice (some ⟨gs, 0, none⟩) (q + 1) vscap) (q + 1) fs (.slice vha nh vhcap) nh fh v m f b5 T L Z from H8a.out.congrN (j := 4) (a' := (srpP ts ss js).gen.fin (t + 1)) rfl HFF.out)
        have HST := Lib.hid (show Stk (srpP ts ss js) (t + 1) (stk fs (q + 1)) (stk fh (nh)) from (HAF.out (nh) fh (by have := HCV.out; rw [HB4.out, if_neg (by omega), if_neg (by omega)])).2 hf)
        clear HAF HB4 HFI HDN HRN
        go_wp2
        go_end0
        exact ⟨rfl, _, q + 1, fs, (.slice vha nh vhcap), nh, fh, HE.out.less, HST.out, by omega, by omega⟩
    | true =>
      have HCV := Lib.hid (of_decide_eq_true hcv)
      clear hcv
      by_cases hdt : D = T
      · have hqd : ((D : Int) == (T : Int)) = true := beq_iff_eq.2 (by omega)
        have HDT := Lib.hid hdt
        clear hdt
        have HK := Lib.hid (show stk (onTop fh nh Z) (nh + 1) = Z :: (srpP ts ss js).hold ((srpP ts ss js).gen.left t) (stk fs q) ∧ stk (onTop fh nh Z) nh = (srpP ts ss js).hold ((srpP ts ss js).gen.left t) (stk fs q) from by
          have h0 : stk fh nh = (srpP ts ss js).hold ((srpP ts ss js).gen.left t) (stk fs q) := by have := HDT.out; rw [HB4.out, if_neg (by omega)]
          refine ⟨by rw [stk_push, h0], ?_⟩
          rw [stk_congr (f := onTop fh nh Z) (g := fh) fun k hk => if_neg (by omega)]
          exact h0)
        go_wp2
        go_quiet (fail)
        clear c8 p0 p2 d0
        obtain ⟨V4, hV4⟩ : ∃ V4, V4 = w2.drewN nq := ⟨_, rfl⟩
        rw [← hV4]
        have H4 := Lib.hid (show Md w ⟨a, cap, some ⟨bs, os, none⟩, scap, some ⟨bj, oj, none⟩, jcap, gc, cc, gd, gr, cr, some ⟨gf, 0, none⟩, fc, R, c, B⟩ ts ss js V4 nx (dnF (srpP ts ss js).gen t) (rnF ts ss js t) ((srpP ts ss js).gen.fin t) (.slice (some ⟨gs, 0, none⟩) (q + 1) vscap) (q + 1) fs (.slice vha nh vhcap) nh fh v m f b5 T L Z from by rw [hV4]; exact H2.out.below (below_drewN _ _))
        clear hV4 H2
        have p2 := H4.out.ps.cell (j := 7) rfl 2 (by decide)
        simp only [F3s] at p2
        have H4b := Lib.hid (show Md w ⟨a, cap, some ⟨bs, os, none⟩, scap, some ⟨bj, oj, none⟩, jcap, gc, cc, gd, gr, cr, some ⟨gf, 0, none⟩, fc, R, c, B⟩ ts ss js V4.drew nx (dnF (srpP ts ss js).gen t) (rnF ts ss js t) ((srpP ts ss js).gen.fin t) (.slice (some ⟨gs, 0, none⟩) (q + 1) vscap) (q + 1) fs (.slice vha nh vhcap) nh fh v m f b5 T L Z from H4.out.below (Below.refl _ _).drew)
        go_wp2
        refine wp_region_still_tail 5 (by kernel_rfl) (by kernel_rfl) ?_
        simp only [List.take_succ_cons, List.take_zero, List.drop_succ_cons, List.drop_zero]
        change wpStill _ _ V4.drew (fun a' => wpList _ _ _ _ a' V4.drew) _ _
        iterate 5 still_step
        refine wpStill_nil ?_
        go_wp2_with fail
        refine (stPush_any (i := 0) (j := 6) (a' := cN (onTop fh nh Z)) (F' := fun u => RX.F ⟨a, cap, some ⟨bs, os, none⟩, scap, some ⟨bj, oj, none⟩, jcap, gc, cc, gd, gr, cr, some ⟨gf, 0, none⟩, fc, R, c, B⟩ ts.length ss.length js.length nx (.slice (some ⟨gs, 0, none⟩) (q + 1) vscap) u) H4b.out rfl (by decide) rfl (by decide) rfl (by omega) (fun k hk => by show ((fh k : Nat) : Int) = ((onTop fh nh Z k : Nat) : Int); unfold onTop; rw [if_neg (by omega)]) (by show ((onTop fh nh Z nh : Nat) : Int) = _; unfold onTop; rw [if_pos rfl]) (fun u k hk => RX.F7 _ _ _ _ _ _ _ u k hk)).mono ?_
        rintro e w4 ⟨rfl, u4, h4⟩
        obtain ⟨gha, ghc, rfl⟩ := own_shape (h4.ps.getN (j := 6) rfl)
        obtain ⟨gh, rfl⟩ := own_some' (h4.ps.getN (j := 6) rfl) (by omega)
        have HX4 := Lib.hid (show Md w ⟨a, cap, some ⟨bs, os, none⟩, scap, some ⟨bj, oj, none⟩, jcap, gc, cc, gd, gr, cr, some ⟨gf, 0, none⟩, fc, R, c, B⟩ ts ss js w4 nx (dnF (srpP ts ss js).gen t) (rnF ts ss js t) ((srpP ts ss js).gen.fin t) (.slice (some ⟨gs, 0, none⟩) (q + 1) vscap) (q + 1) fs (.slice (some ⟨gh, 0, none⟩) (nh + 1) ghc) (nh + 1) (onTop fh nh Z) v m f b5 T L Z from h4)
        clear h4 H4 H4b p2
        have H5 := HX4
        obtain ⟨V5, hV5⟩ : ∃ V5, V5 = w4 := ⟨_, rfl⟩
        rw [← hV5] at H5 ⊢
        clear hV5 HX4
        have c9 := H5.out.ps.cell (j := 0) rfl 9 (by decide)
        have c8 := H5.out.ps.cell (j := 0) rfl 8 (by decide)
        simp only [RX.F] at c9 c8
        obtain ⟨g1, g2, g3, -⟩ := H5.out.ps.atN (j := 3) (k := t) rfl ht
        obtain ⟨g4, g5, g6, -⟩ := H5.out.ps.atN (j := 2) (k := j) rfl kn
        rw [HD0.out] at g4
        have m1 := H5.out.ps.neN (j := 0) (k := 3) rfl rfl (by decide)
        have m2 : ¬ B = gr := m1
        have m3 : ¬ gr = B := fun e => m1 e.symm
        have m4 := ne_items H5.out.ps (j := 2) (k := 3) rfl rfl (by decide)
        have m5 : ¬ gd = gr := m4
        have m6 : ¬ gr = gd := fun e => m4 e.symm
        have h6 : Md w ⟨a, cap, some ⟨bs, os, none⟩, scap, some ⟨bj, oj, none⟩, jcap, gc, cc, gd, gr, cr, some ⟨gf, 0, none⟩, fc, R, c, B⟩ ts ss js ((V5.setCell ⟨gr, t, none⟩ (.int .i64 (j : Int))).setCell ⟨gd, j, none⟩ (.int .i64 ((D : Int) + 1))) nx (dnF (srpP ts ss js).gen (t + 1)) (rnF ts ss js (t + 1)) ((srpP ts ss js).gen.fin t) (.slice (some ⟨gs, 0, none⟩) (q + 1) vscap) (q + 1) fs (.slice (some ⟨gh, 0, none⟩) (nh + 1) ghc) (nh + 1) (onTop fh nh Z) v m f b5 T L Z := (H5.out.setN (j := 3) (x := (j : Int)) (a' := rnF ts ss js (t + 1)) rfl ht HRN.out).setN (j := 2) (x := (D : Int) + 1) (a' := dnF (srpP ts ss js).gen (t + 1)) rfl kn HDN.out
        go_wp2
        obtain ⟨V6, hV6⟩ : ∃ V6, V6 = ((V5.setCell ⟨gr, t, none⟩ (.int .i64 (j : Int))).setCell ⟨gd, j, none⟩ (.int .i64 ((D : Int) + 1))) := ⟨_, rfl⟩
        rw [← hV6] at h6 ⊢
        have H6 := Lib.hid h6
        clear hV6 h6 m1 m2 m3 m4 m5 m6 g1 g2 g3 g4 g5 g6 c8 c9 H5
        have HD1 := Lib.hid (show dnF (srpP ts ss js).gen (t + 1) j = (D : Int) + 1 from by
          have h := HDN.out j kn
          rw [if_pos rfl] at h
          exact h.symm)
        have c8 := H6.out.ps.cell (j := 0) rfl 8 (by decide)
        have c2 := H6.out.ps.cell (j := 0) rfl 2 (by decide)
        simp only [RX.F] at c8 c2
        have d1 := (H6.out.ps.atN (j := 2) (k := j) rfl kn).1
        rw [HD1.out] at d1
        have x3 := HEX.out _ H6.out.ps.be
        by_cases hf : G = 1
        · have hqf : ((D : Int) + 1 == (E : Int)) = true := beq_iff_eq.2 (by omega)
          have HFF := Lib.hid (show ∀ i, i < js.length → (if i = j then (t : Int) + 1 else (srpP ts ss js).gen.fin t i) = (srpP ts ss js).gen.fin (t + 1) i from fun i hi => by
            have h := HFI.out i hi
            rw [if_pos hf] at h
            exact h)
          go_quiet (fail)
          obtain ⟨V7, hV7⟩ : ∃ V7, V7 = V6.drewN nq := ⟨_, rfl⟩
          rw [← hV7]
          have H7 := Lib.hid (show Md w ⟨a, cap, some ⟨bs, os, none⟩, scap, some ⟨bj, oj, none⟩, jcap, gc, cc, gd, gr, cr, some ⟨gf, 0, none⟩, fc, R, c, B⟩ ts ss js V7 nx (dnF (srpP ts ss js).gen (t + 1)) (rnF ts ss js (t + 1)) ((srpP ts ss js).gen.fin t) (.slice (some ⟨gs, 0, none⟩) (q + 1) vscap) (q + 1) fs (.slice (some ⟨gh, 0, none⟩) (nh + 1) ghc) (nh + 1) (onTop fh nh Z) v m f b5 T L Z from by rw [hV7]; exact H6.out.below (below_drewN _ _))
          clear hV7 c8 c2 d1 x3 H6
          go_wp2
          go_quiet (fail)
          obtain ⟨V8, hVV⟩ : ∃ V8, V8 = V7.drewN nq := ⟨_, rfl⟩
          rw [← hVV]
          have H8a := Lib.hid (show Md w ⟨a, cap, some ⟨bs, os, none⟩, scap, some ⟨bj, oj, none⟩, jcap, gc, cc, gd, gr, cr, some ⟨gf, 0, none⟩, fc, R, c, B⟩ ts ss js V8 nx (dnF (srpP ts ss js).gen (t + 1)) (rnF ts ss js (t + 1)) ((srpP ts ss js).gen.fin t) (.slice (some ⟨gs, 0, none⟩) (q + 1) vscap) (q + 1) fs (.slice (some ⟨gh, 0, none⟩) (nh + 1) ghc) (nh + 1) (onTop fh nh Z) v m f b5 T L Z from by rw [hVV]; exact H7.out.below (below_drewN _ _))
          clear hVV H7
          have c7 := H8a.out.ps.cell (j := 0) rfl 7 (by decide)
          simp only [RX.F] at c7
          go_wp2_with fail
          refine (stPop_any (i := 0) (j := 6) (F' := RX.F ⟨a, cap, some ⟨bs, os, none⟩, scap, some ⟨bj, oj, none⟩, jcap, gc, cc, gd, gr, cr, some ⟨gf, 0, none⟩, fc, R, c, B⟩ ts.length ss.length js.length nx (.slice (some ⟨gs, 0, none⟩) (q + 1) vscap) (.slice (some ⟨gh, 0, none⟩) nh ghc)) H8a.out rfl (by decide) rfl (by decide) rfl (by omega) (fun k hk => RX.F7 _ _ _ _ _ _ _ _ k hk)).mono ?_
          rintro e w8 ⟨rfl, h8⟩
          have H8 := Lib.hid (show Md w ⟨a, cap, some ⟨bs, os, none⟩, scap, some ⟨bj, oj, none⟩, jcap, gc, cc, gd, gr, cr, some ⟨gf, 0, none⟩, fc, R, c, B⟩ ts ss js w8 nx (dnF (srpP ts ss js).gen (t + 1)) (rnF ts ss js (t + 1)) ((srpP ts ss js).gen.fin t) (.slice (some ⟨gs, 0, none⟩) (q + 1) vscap) (q + 1) fs (.slice (some ⟨gh, 0, none⟩) nh ghc) nh (onTop fh nh Z) v m f b5 T L Z from h8)
          clear h8 c7 H8a
          have c10 := H8.out.ps.cell (j := 0) rfl 10 (by decide)
          have c6 := H8.out.ps.cell (j := 0) rfl 6 (by decide)
          simp only [RX.F] at c10 c6
          obtain ⟨z1, z2, z3, -⟩ := H8.out.ps.atN (j := 4) (k := j) rfl kn
          have n1 := H8.out.ps.neN (j := 0) (k := 4) rfl rfl (by decide)
          have n2 : ¬ B = gf := n1
          have n3 : ¬ gf = B := fun e => n1 e.symm
          have H9 := Lib.hid (show Md w ⟨a, cap, some ⟨bs, os, none⟩, scap, some ⟨bj, oj, none⟩, jcap, gc, cc, gd, gr, cr, some ⟨gf, 0, none⟩, fc, R, c, B⟩ ts ss js (w8.setCell ⟨gf, j, none⟩ (.int .i64 ((t : Int) + 1))) nx (dnF (srpP ts ss js).gen (t + 1)) (rnF ts ss js (t + 1)) ((srpP ts ss js).gen.fin (t + 1)) (.slice (some ⟨gs, 0, none⟩) (q + 1) vscap) (q + 1) fs (.slice (some ⟨gh, 0, none⟩) nh ghc) nh (onTop fh nh Z) v m f b5 T L Z from H8.out.setN (j := 4) (x := (t : Int) + 1) (a' := (srpP ts ss js).gen.fin (t + 1)) rfl kn HFF.out)
          go_wp2_with fail
          refine (stPop_any (i := 0) (j := 5) (F' := RX.F ⟨a, cap, some ⟨bs, os, none⟩, scap, some ⟨bj, oj, none⟩, jcap, gc, cc, gd, gr, cr, some ⟨gf, 0, none⟩, fc, R, c, B⟩ ts.length ss.length js.length nx (.slice (some ⟨gs, 0, none⟩) q vscap) (.slice (some ⟨gh, 0, none⟩) nh ghc)) H9.out rfl (by decide) rfl (by decide) rfl (by omega) (fun k hk => RX.F6 _ _ _ _ _ _ _ _ k hk)).mono ?_
          rintro e w9 ⟨rfl, h9⟩
          have HE := Lib.hid (show Md w ⟨a, cap, some ⟨bs, os, none⟩, scap, some ⟨bj, oj, none⟩, jcap, gc, cc, gd, gr, cr, some ⟨gf, 0, none⟩, fc, R, c, B⟩ ts ss js w9 nx (dnF (srpP ts ss js).gen (t + 1)) (rnF ts ss js (t + 1)) ((srpP ts ss js).gen.fin (t + 1)) (.slice (some ⟨gs, 0, none⟩) q vscap) q fs (.slice (some ⟨gh, 0, none⟩) nh ghc) nh (onTop fh nh Z) v m f b5 T L Z from h9)
          have HST := Lib.hid (show Stk (srpP ts ss js) (t + 1) (stk fs q) (stk (onTop fh nh Z) (nh)) from (HAF.out (nh) (onTop fh nh Z) (by have := HCV.out; rw [HK.out.2, if_neg (by omega)])).1 hf)
          clear h9 HAF HB4 HFI HDN HRN H9
          go_wp2
          go_end0
          exact ⟨rfl, _, q, fs, (.slice (some ⟨gh, 0, none⟩) nh ghc), nh, (onTop fh nh Z), HE.out.less, HST.out, by omega, by omega⟩
        · have hqf : ((D : Int) + 1 == (E : Int)) = false := beq_eq_false_iff_ne.2 (by omega)
          have HFF := Lib.hid (show ∀ i, i < js.length → (srpP ts ss js).gen.fin t i = (srpP ts ss js).gen.fin (t + 1) i from fun i hi => by
            have h := HFI.out i hi
            rw [if_neg hf] at h
            rw [← h]
            by_cases e : i = j
            · subst e; rw [if_pos rfl]
            · rw [if_neg e])
          go_quiet (fail)
          obtain ⟨V7, hV7⟩ : ∃ V7, V7 = V6.drewN nq := ⟨_, rfl⟩
          rw [← hV7]
          have H7 := Lib.hid (show Md w ⟨a, cap, some ⟨bs, os, none⟩, scap, some ⟨bj, oj, none⟩, jcap, gc, cc, gd, gr, cr, some ⟨gf, 0, none⟩, fc, R, c, B⟩ ts ss js V7 nx (dnF (srpP ts ss js).gen (t + 1)) (rnF ts ss js (t + 1)) ((srpP ts ss js).gen.fin t) (.slice (some ⟨gs, 0, none⟩) (q + 1) vscap) (q + 1) fs (.slice (some ⟨gh, 0, none⟩) (nh + 1) ghc) (nh + 1) (onTop fh nh Z) v m f b5 T L Z from by rw [hV7]; exact H6.out.below (below_drewN _ _))
          clear hV7 c8 c2 d1 x3 H6
          go_wp2
          have c8 := H7.out.ps.cell (j := 0) rfl 8 (by decide)
          simp only [RX.F] at c8
          have p0 := H7.out.ps.cell (j := 7) rfl 0 (by decide)
          have p1 := H7.out.ps.cell (j := 7) rfl 1 (by decide)
          have p2 := H7.out.ps.cell (j := 7) rfl 2 (by decide)
          simp only [F3s] at p0 p1 p2
          have d1 := (H7.out.ps.atN (j := 2) (k := j) rfl kn).1
          rw [HD1.out] at d1
          refine wp_region_still_tail 12 (by kernel_rfl) (by kernel_rfl) ?_
          simp only [List.take_succ_cons, List.take_zero, List.drop_succ_cons, List.drop_zero]
          change wpStill _ _ V7.drew (fun a' => wpList _ _ _ _ a' V7.drew) _ _
          iterate 12 still_step
          refine wpStill_nil ?_
          go_wp2_with fail
          refine (covers_any T L Z (D + 1) _ (by omega) (by omega)).mono ?_
          rintro e w7 ⟨rfl, b7⟩
          have H7b := Lib.hid (show Md w ⟨a, cap, some ⟨bs, os, none⟩, scap, some ⟨bj, oj, none⟩, jcap, gc, cc, gd, gr, cr, some ⟨gf, 0, none⟩, fc, R, c, B⟩ ts ss js w7 nx (dnF (srpP ts ss js).gen (t + 1)) (rnF ts ss js (t + 1)) ((srpP ts ss js).gen.fin t) (.slice (some ⟨gs, 0, none⟩) (q + 1) vscap) (q + 1) fs (.slice (some ⟨gh, 0, none⟩) (nh + 1) ghc) (nh + 1) (onTop fh nh Z) v m f b5 T L Z from (H7.out.below (Below.refl _ _).drew).below b7)
          clear b7 c8 p0 p1 p2 d1 H7
          cases hc2 : cvB T L (D + 1) with
          | false =>
            have HC2 := Lib.hid (of_decide_eq_false hc2)
            clear hc2
            have c7 := H7b.out.ps.cell (j := 0) rfl 7 (by decide)
            simp only [RX.F] at c7
            go_wp2_with fail
            refine (stPop_any (i := 0) (j := 6) (F' := RX.F ⟨a, cap, some ⟨bs, os, none⟩, scap, some ⟨bj, oj, none⟩, jcap, gc, cc, gd, gr, cr, some ⟨gf, 0, none⟩, fc, R, c, B⟩ ts.length ss.length js.length nx (.slice (some ⟨gs, 0, none⟩) (q + 1) vscap) (.slice (some ⟨gh, 0, none⟩) nh ghc)) H7b.out rfl (by decide) rfl (by decide) rfl (by omega) (fun k hk => RX.F7 _ _ _ _ _ _ _ _ k hk)).mono ?_
            rintro e w8 ⟨rfl, h8⟩
            have H8 := Lib.hid (show Md w ⟨a, cap, some ⟨bs, os, none⟩, scap, some ⟨bj, oj, none⟩, jcap, gc, cc, gd, gr, cr, some ⟨gf, 0, none⟩, fc, R, c, B⟩ ts ss js w8 nx (dnF (srpP ts ss js).gen (t + 1)) (rnF ts ss js (t + 1)) ((srpP ts ss js).gen.fin t) (.slice (some ⟨gs, 0, none⟩) (q + 1) vscap) (q + 1) fs (.slice (some ⟨gh, 0, none⟩) nh ghc) nh (onTop fh nh Z) v m f b5 T L Z from h8)
            clear h8 c7 H7b
            have HE := Lib.hid (show Md w ⟨a, cap, some ⟨bs, os, none⟩, scap, some ⟨bj, oj, none⟩, jcap, gc, cc, gd, gr, cr, some ⟨gf, 0, none⟩, fc, R, c, B⟩ ts ss js w8 nx (dnF (srpP ts ss js).gen (t + 1)) (rnF ts ss js (t + 1)) ((srpP ts ss js).gen.fin (t + 1)) (.slice (some ⟨gs, 0, none⟩) (q + 1) vscap) (q + 1) fs (.slice (some ⟨gh, 0, none⟩) nh ghc) nh (onTop fh nh Z) v m f b5 T L Z from H8.out.congrN (j := 4) (a' := (srpP ts ss js).gen.fin (t + 1)) rfl HFF.out)
            have HST := Lib.hid (show Stk (srpP ts ss js) (t + 1) (stk fs (q + 1)) (stk (onTop fh nh Z) (nh)) from (HAF.out (nh) (onTop fh nh Z) (by have := HC2.out; rw [HK.out.2, if_neg (by omega)])).2 hf)
            clear HAF HB4 HFI HDN HRN
            go_wp2
            go_end0
            exact ⟨rfl, _, q + 1, fs, (.slice (some ⟨gh, 0, none⟩) nh ghc), nh, (onTop fh nh Z), HE.out.less, HST.out, by omega, by omega⟩
          | true =>
            have HC2 := Lib.hid (of_decide_eq_true hc2)
            clear hc2
            have HE := Lib.hid (show Md w ⟨a, cap, some ⟨bs, os, none⟩, scap, some ⟨bj, oj, none⟩, jcap, gc, cc, gd, gr, cr, some ⟨gf, 0, none⟩, fc, R, c, B⟩ ts ss js w7 nx (dnF (srpP ts ss js).gen (t + 1)) (rnF ts ss js (t + 1)) ((srpP ts ss js).gen.fin (t + 1)) (.slice (some ⟨gs, 0, none⟩) (q + 1) vscap) (q + 1) fs (.slice (some ⟨gh, 0, none⟩) (nh + 1) ghc) (nh + 1) (onTop fh nh Z) v m f b5 T L Z from H7b.out.congrN (j := 4) (a' := (srpP ts ss js).gen.fin (t + 1)) rfl HFF.out)
            have HST := Lib.hid (show Stk (srpP ts ss js) (t + 1) (stk fs (q + 1)) (stk (onTop fh nh Z) ((nh + 1))) from (HAF.out ((nh + 1)) (onTop fh nh Z) (by have := HC2.out; have := HCV.out; rw [HK.out.1, if_pos (by omega)])).2 hf)
            clear HAF HB4 HFI HDN HRN
            go_wp2
            go_end0
            exact ⟨rfl, _, q + 1, fs, (.slice (some ⟨gh, 0, none⟩) (nh + 1) ghc), (nh + 1), (onTop fh nh Z), HE.out.less, HST.out, by omega, by omega⟩
      · have hqd : ((D : Int) == (T : Int)) = false := beq_eq_false_iff_ne.2 (by omega)
        obtain ⟨kh, rfl, hk1, hk2⟩ := stk_cons (HB4.out.trans (if_pos (by have := HCV.out; omega)))
        have HK := Lib.hid (show stk fh (kh + 1) = Z :: (srpP ts ss js).hold ((srpP ts ss js).gen.left t) (stk fs q) ∧ stk fh kh = (srpP ts ss js).hold ((srpP ts ss js).gen.left t) (stk fs q) from ⟨HB4.out.trans (if_pos (by have := HCV.out; omega)), hk2⟩)
        obtain ⟨gh, rfl⟩ := own_some' (H2.out.ps.getN (j := 6) rfl) (by omega)
        go_wp2
        go_quiet (fail)
        clear c8 p0 p2 d0
        obtain ⟨V5, hV5⟩ : ∃ V5, V5 = w2.drewN nq := ⟨_, rfl⟩
        rw [← hV5]
        have H5 := Lib.hid (show Md w ⟨a, cap, some ⟨bs, os, none⟩, scap, some ⟨bj, oj, none⟩, jcap, gc, cc, gd, gr, cr, some ⟨gf, 0, none⟩, fc, R, c, B⟩ ts ss js V5 nx (dnF (srpP ts ss js).gen t) (rnF ts ss js t) ((srpP ts ss js).gen.fin t) (.slice (some ⟨gs, 0, none⟩) (q + 1) vscap) (q + 1) fs (.slice (some ⟨gh, 0, none⟩) (kh + 1) vhcap) (kh + 1) fh v m f b5 T L Z from by rw [hV5]; exact H2.out.below (below_drewN _ _))
        clear hV5
        clear H2
        have c9 := H5.out.ps.cell (j := 0) rfl 9 (by decide)
        have c8 := H5.out.ps.cell (j := 0) rfl 8 (by decide)
        simp only [RX.F] at c9 c8
        obtain ⟨g1, g2, g3, -⟩ := H5.out.ps.atN (j := 3) (k := t) rfl ht
        obtain ⟨g4, g5, g6, -⟩ := H5.out.ps.atN (j := 2) (k := j) rfl kn
        rw [HD0.out] at g4
        have m1 := H5.out.ps.neN (j := 0) (k := 3) rfl rfl (by decide)
        have m2 : ¬ B = gr := m1
        have m3 : ¬ gr = B := fun e => m1 e.symm
        have m4 := ne_items H5.out.ps (j := 2) (k := 3) rfl rfl (by decide)
        have m5 : ¬ gd = gr := m4
        have m6 : ¬ gr = gd := fun e => m4 e.symm
        have h6 : Md w ⟨a, cap, some ⟨bs, os, none⟩, scap, some ⟨bj, oj, none⟩, jcap, gc, cc, gd, gr, cr, some ⟨gf, 0, none⟩, fc, R, c, B⟩ ts ss js ((V5.setCell ⟨gr, t, none⟩ (.int .i64 (j : Int))).setCell ⟨gd, j, none⟩ (.int .i64 ((D : Int) + 1))) nx (dnF (srpP ts ss js).gen (t + 1)) (rnF ts ss js (t + 1)) ((srpP ts ss js).gen.fin t) (.slice (some ⟨gs, 0, none⟩) (q + 1) vscap) (q + 1) fs (.slice (some ⟨gh, 0, none⟩) (kh + 1) vhcap) (kh + 1) fh v m f b5 T L Z := (H5.out.setN (j := 3) (x := (j : Int)) (a' := rnF ts ss js (t + 1)) rfl ht HRN.out).setN (j := 2) (x := (D : Int) + 1) (a' := dnF (srpP ts ss js).gen (t + 1)) rfl kn HDN.out
        go_wp2
        obtain ⟨V6, hV6⟩ : ∃ V6, V6 = ((V5.setCell ⟨gr, t, none⟩ (.int .i64 (j : Int))).setCell ⟨gd, j, none⟩ (.int .i64 ((D : Int) + 1))) := ⟨_, rfl⟩
        rw [← hV6] at h6 ⊢
        have H6 := Lib.hid h6
        clear hV6 h6 m1 m2 m3 m4 m5 m6 g1 g2 g3 g4 g5 g6 c8 c9 H5
        have HD1 := Lib.hid (show dnF (srpP ts ss js).gen (t + 1) j = (D : Int) + 1 from by
          have h := HDN.out j kn
          rw [if_pos rfl] at h
          exact h.symm)
        have c8 := H6.out.ps.cell (j := 0) rfl 8 (by decide)
        have c2 := H6.out.ps.cell (j := 0) rfl 2 (by decide)
        simp only [RX.F] at c8 c2
        have d1 := (H6.out.ps.atN (j := 2) (k := j) rfl kn).1
        rw [HD1.out] at d1
        have x3 := HEX.out _ H6.out.ps.be
        by_cases hf : G = 1
        · have hqf : ((D : Int) + 1 == (E : Int)) = true := beq_iff_eq.2 (by omega)
          have HFF := Lib.hid (show ∀ i, i < js.length → (if i = j then (t : Int) + 1 else (srpP ts ss js).gen.fin t i) = (srpP ts ss js).gen.fin (t + 1) i from fun i hi => by
            have h := HFI.out i hi
            rw [if_pos hf] at h
            exact h)
          go_quiet (fail)
          obtain ⟨V7, hV7⟩ : ∃ V7, V7 = V6.drewN nq := ⟨_, rfl⟩
          rw [← hV7]
          have H7 := Lib.hid (show Md w ⟨a, cap, some ⟨bs, os, none⟩, scap, some ⟨bj, oj, none⟩, jcap, gc, cc, gd, gr, cr, some ⟨gf, 0, none⟩, fc, R, c, B⟩ ts ss js V7 nx (dnF (srpP ts ss js).gen (t + 1)) (rnF ts ss js (t + 1)) ((srpP ts ss js).gen.fin t) (.slice (some ⟨gs, 0, none⟩) (q + 1) vscap) (q + 1) fs (.slice (some ⟨gh, 0, none⟩) (kh + 1) vhcap) (kh + 1) fh v m f b5 T L Z from by rw [hV7]; exact H6.out.below (below_drewN _ _))
          clear hV7 c8 c2 d1 x3 H6
          go_wp2
          go_quiet (fail)
          obtain ⟨V8, hVV⟩ : ∃ V8, V8 = V7.drewN nq := ⟨_, rfl⟩
          rw [← hVV]
          have H8a := Lib.hid (show Md w ⟨a, cap, some ⟨bs, os, none⟩, scap, some ⟨bj, oj, none⟩, jcap, gc, cc, gd, gr, cr, some ⟨gf, 0, none⟩, fc, R, c, B⟩ ts ss js V8 nx (dnF (srpP ts ss js).gen (t + 1)) (rnF ts ss js (t + 1)) ((srpP ts ss js).gen.fin t) (.slice (some ⟨gs, 0, none⟩) (q + 1) vscap) (q + 1) fs (.slice (some ⟨gh, 0, none⟩) (kh + 1) vhcap) (kh + 1) fh v m f b5 T L Z from by rw [hVV]; exact H7.out.below (below_drewN _ _))
          clear hVV H7
          have c7 := H8a.out.ps.cell (j := 0) rfl 7 (by decide)
          simp only [RX.F] at c7
          go_wp2_with fail
          refine (stPop_any (i := 0) (j := 6) (F' := RX.F ⟨a, cap, some ⟨bs, os, none⟩, scap, some ⟨bj, oj, none⟩, jcap, gc, cc, gd, gr, cr, some ⟨gf, 0, none⟩, fc, R, c, B⟩ ts.length ss.length js.length nx (.slice (some ⟨gs, 0, none⟩) (q + 1) vscap) (.slice (some ⟨gh, 0, none⟩) kh vhcap)) H8a.out rfl (by decide) rfl (by decide) rfl (by omega) (fun k hk => RX.F7 _ _ _ _ _ _ _ _ k hk)).mono ?_
          rintro e w8 ⟨rfl, h8⟩
          have H8 := Lib.hid (show Md w ⟨a, cap, some ⟨bs, os, none⟩, scap, some ⟨bj, oj, none⟩, jcap, gc, cc, gd, gr, cr, some ⟨gf, 0, none⟩, fc, R, c, B⟩ ts ss js w8 nx (dnF (srpP ts ss js).gen (t + 1)) (rnF ts ss js (t + 1)) ((srpP ts ss js).gen.fin t) (.slice (some ⟨gs, 0, none⟩) (q + 1) vscap) (q + 1) fs (.slice (some ⟨gh, 0, none⟩) kh vhcap) kh fh v m f b5 T L Z from h8)
          clear h8 c7 H8a
          have c10 := H8.out.ps.cell (j := 0) rfl 10 (by decide)
          have c6 := H8.out.ps.cell (j := 0) rfl 6 (by decide)
          simp only [RX.F] at c10 c6
          obtain ⟨z1, z2, z3, -⟩ := H8.out.ps.atN (j := 4) (k := j) rfl kn
          have n1 := H8.out.ps.neN (j := 0) (k := 4) rfl rfl (by decide)
          have n2 : ¬ B = gf := n1
          have n3 : ¬ gf = B := fun e => n1 e.symm
          have H9 := Lib.hid (show Md w ⟨a, cap, some ⟨bs, os, none⟩, scap, some ⟨bj, oj, none⟩, jcap, gc, cc, gd, gr, cr, some ⟨gf, 0, none⟩, fc, R, c, B⟩ ts ss js (w8.setCell ⟨gf, j, none⟩ (.int .i64 ((t : Int) + 1))) nx (dnF (srpP ts ss js).gen (t + 1)) (rnF ts ss js (t + 1)) ((srpP ts ss js).gen.fin (t + 1)) (.slice (some ⟨gs, 0, none⟩) (q + 1) vscap) (q + 1) fs (.slice (some ⟨gh, 0, none⟩) kh vhcap) kh fh v m f b5 T L Z from H8.out.setN (j := 4) (x := (t : Int) + 1) (a' := (srpP ts ss js).gen.fin (t + 1)) rfl kn HFF.out)
          go_wp2_with fail
          refine (stPop_any (i := 0) (j := 5) (F' := RX.F ⟨a, cap, some ⟨bs, os, none⟩, scap, some ⟨bj, oj, none⟩, jcap, gc, cc, gd, gr, cr, some ⟨gf, 0, none⟩, fc, R, c, B⟩ ts.length ss.length js.length nx (.slice (some ⟨gs, 0, none⟩) q vscap) (.slice (some ⟨gh, 0, none⟩) kh vhcap)) H9.out rfl (by decide) rfl (by decide) rfl (by omega) (fun k hk => RX.F6 _ _ _ _ _ _ _ _ k hk)).mono ?_
          rintro e w9 ⟨rfl, h9⟩
          have HE := Lib.hid (show Md w ⟨a, cap, some ⟨bs, os, none⟩, scap, some ⟨bj, oj, none⟩, jcap, gc, cc, gd, gr, cr, some ⟨gf, 0, none⟩, fc, R, c, B⟩ ts ss js w9 nx (dnF (srpP ts ss js).gen (t + 1)) (rnF ts ss js (t + 1)) ((srpP ts ss js).gen.fin (t + 1)) (.slice (some ⟨gs, 0, none⟩) q vscap) q fs (.slice (some ⟨gh, 0, none⟩) kh vhcap) kh fh v m f b5 T L Z from h9)
          have HST := Lib.hid (show Stk (srpP ts ss js) (t + 1) (stk fs q) (stk fh (kh)) from (HAF.out (kh) fh (by have := HCV.out; rw [HK.out.2, if_neg (by omega)])).1 hf)
          clear h9 HAF HB4 HFI HDN HRN H9
          go_wp2
          go_end0
          exact ⟨rfl, _, q, fs, (.slice (some ⟨gh, 0, none⟩) kh vhcap), kh, fh, HE.out.less, HST.out, by omega, by omega⟩
        · have hqf : ((D : Int) + 1 == (E : Int)) = false := beq_eq_false_iff_ne.2 (by omega)
          have HFF := Lib.hid (show ∀ i, i < js.length → (srpP ts ss js).gen.fin t i = (srpP ts ss js).gen.fin (t + 1) i from fun i hi => by
            have h := HFI.out i hi
            rw [if_neg hf] at h
            rw [← h]
            by_cases e : i = j
            · subst e; rw [if_pos rfl]
            · rw [if_neg e])
          go_quiet (fail)
          obtain ⟨V7, hV7⟩ : ∃ V7, V7 = V6.drewN nq := ⟨_, rfl⟩
          rw [← hV7]
          have H7 := Lib.hid (show Md w ⟨a, cap, some ⟨bs, os, none⟩, scap, some ⟨bj, oj, none⟩, jcap, gc, cc, gd, gr, cr, some ⟨gf, 0, none⟩, fc, R, c, B⟩ ts ss js V7 nx (dnF (srpP ts ss js).gen (t + 1)) (rnF ts ss js (t + 1)) ((srpP ts ss js).gen.fin t) (.slice (some ⟨gs, 0, none⟩) (q + 1) vscap) (q + 1) fs (.slice (some ⟨gh, 0, none⟩) (kh + 1) vhcap) (kh + 1) fh v m f b5 T L Z from by rw [hV7]; exact H6.out.below (below_drewN _ _))
          clear hV7 c8 c2 d1 x3 H6
          go_wp2
          have c8 := H7.out.ps.cell (j := 0) rfl 8 (by decide)
          simp only [RX.F] at c8
          have p0 := H7.out.ps.cell (j := 7) rfl 0 (by decide)
          have p1 := H7.out.ps.cell (j := 7) rfl 1 (by decide)
          have p2 := H7.out.ps.cell (j := 7) rfl 2 (by decide)
          simp only [F3s] at p0 p1 p2
          have d1 := (H7.out.ps.atN (j := 2) (k := j) rfl kn).1
          rw [HD1.out] at d1
          refine wp_region_still_tail 12 (by kernel_rfl) (by kernel_rfl) ?_
          simp only [List.take_succ_cons, List.take_zero, List.drop_succ_cons, List.drop_zero]
          change wpStill _ _ V7.drew (fun a' => wpList _ _ _ _ a' V7.drew) _ _
          iterate 12 still_step
          refine wpStill_nil ?_
          go_wp2_with fail
          refine (covers_any T L Z (D + 1) _ (by omega) (by omega)).mono ?_
          rintro e w7 ⟨rfl, b7⟩
          have H7b := Lib.hid (show Md w ⟨a, cap, some ⟨bs, os, none⟩, scap, some ⟨bj, oj, none⟩, jcap, gc, cc, gd, gr, cr, some ⟨gf, 0, none⟩, fc, R, c, B⟩ ts ss js w7 nx (dnF (srpP ts ss js).gen (t + 1)) (rnF ts ss js (t + 1)) ((srpP ts ss js).gen.fin t) (.slice (some ⟨gs, 0, none⟩) (q + 1) vscap) (q + 1) fs (.slice (some ⟨gh, 0, none⟩) (kh + 1) vhcap) (kh + 1) fh v m f b5 T L Z from (H7.out.below (Below.refl _ _).drew).below b7)
          clear b7 c8 p0 p1 p2 d1 H7
          cases hc2 : cvB T L (D + 1) with
          | false =>
            have HC2 := Lib.hid (of_decide_eq_false hc2)
            clear hc2
            have c7 := H7b.out.ps.cell (j := 0) rfl 7 (by decide)
            simp only [RX.F] at c7
            go_wp2_with fail
            refine (stPop_any (i := 0) (j := 6) (F' := RX.F ⟨a, cap, some ⟨bs, os, none⟩, scap, some ⟨bj, oj, none⟩, jcap, gc, cc, gd, gr, cr, some ⟨gf, 0, none⟩, fc, R, c, B⟩ ts.length ss.length js.length nx (.slice (some ⟨gs, 0, none⟩) (q + 1) vscap) (.slice (some ⟨gh, 0, none⟩) kh vhcap)) H7b.out rfl (by decide) rfl (by decide) rfl (by omega) (fun k hk => RX.F7 _ _ _ _ _ _ _ _ k hk)).mono ?_
            rintro e w8 ⟨rfl, h8⟩
            have H8 := Lib.hid (show Md w ⟨a, cap, some ⟨bs, os, none⟩, scap, some ⟨bj, oj, none⟩, jcap, gc, cc, gd, gr, cr, some ⟨gf, 0, none⟩, fc, R, c, B⟩ ts ss js w8 nx (dnF (srpP ts ss js).gen (t + 1)) (rnF ts ss js (t + 1)) ((srpP ts ss js).gen.fin t) (.slice (some ⟨gs, 0, none⟩) (q + 1) vscap) (q + 1) fs (.slice (some ⟨gh, 0, none⟩) kh vhcap) kh fh v m f b5 T L Z from h8)
            clear h8 c7 H7b
            have HE := Lib.hid (show Md w ⟨a, cap, some ⟨bs, os, none⟩, scap, some ⟨bj, oj, none⟩, jcap, gc, cc, gd, gr, cr, some ⟨gf, 0, none⟩, fc, R, c, B⟩ ts ss js w8 nx (dnF (srpP ts ss js).gen (t + 1)) (rnF ts ss js (t + 1)) ((srpP ts ss js).gen.fin (t + 1)) (.slice (some ⟨gs, 0, none⟩) (q + 1) vscap) (q + 1) fs (.slice (some ⟨gh, 0, none⟩) kh vhcap) kh fh v m f b5 T L Z from H8.out.congrN (j := 4) (a' := (srpP ts ss js).gen.fin (t + 1)) rfl HFF.out)
            have HST := Lib.hid (show Stk (srpP ts ss js) (t + 1) (stk fs (q + 1)) (stk fh (kh)) from (HAF.out (kh) fh (by have := HC2.out; rw [HK.out.2, if_neg (by omega)])).2 hf)
            clear HAF HB4 HFI HDN HRN
            go_wp2
            go_end0
            exact ⟨rfl, _, q + 1, fs, (.slice (some ⟨gh, 0, none⟩) kh vhcap), kh, fh, HE.out.less, HST.out, by omega, by omega⟩
          | true =>
            have HC2 := Lib.hid (of_decide_eq_true hc2)
            clear hc2
            have HE := Lib.hid (show Md w ⟨a, cap, some ⟨bs, os, none⟩, scap, some ⟨bj, oj, none⟩, jcap, gc, cc, gd, gr, cr, some ⟨gf, 0, none⟩, fc, R, c, B⟩ ts ss js w7 nx (dnF (srpP ts ss js).gen (t + 1)) (rnF ts ss js (t + 1)) ((srpP ts ss js).gen.fin (t + 1)) (.slice (some ⟨gs, 0, none⟩) (q + 1) vscap) (q + 1) fs (.slice (some ⟨gh, 0, none⟩) (kh + 1) vhcap) (kh + 1) fh v m f b5 T L Z from H7b.out.congrN (j := 4) (a' := (srpP ts ss js).gen.fin (t + 1)) rfl HFF.out)
            have HST := Lib.hid (show Stk (srpP ts ss js) (t + 1) (stk fs (q + 1)) (stk fh ((kh + 1))) from (HAF.out ((kh + 1)) fh (by have := HC2.out; have := HCV.out; rw [HK.out.1, if_pos (by omega)])).2 hf)
            clear HAF HB4 HFI HDN HRN
            go_wp2
            go_end0
            exact ⟨rfl, _, q + 1, fs, (.slice (some ⟨gh, 0, none⟩) (kh + 1) vhcap), (kh + 1), fh, HE.out.less, HST.out, by omega, by omega⟩

end Go.Proofs.Ytlagghoohloklaa
