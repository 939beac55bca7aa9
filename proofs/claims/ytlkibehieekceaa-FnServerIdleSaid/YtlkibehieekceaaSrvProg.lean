/- The program's simulation with constant bandwidth servers: its memory as one family, the methods of impl.periodicJob and impl.activeServer, impl.emptyRun, impl.contenders, impl.mostUrgent, and how each tick turns the family. Conditions: those that each theorem names. -/
import Derived.Test.YtlkibehieekceaaFam
import Derived.Test.YtlkibehieekceaaCbs4
import Derived.BigRegion
import Derived.BigQuiet
import Derived.Test.YtlkibehieekceaaDrawRun5
import Derived.Test.YtlkibehieekceaaRepeat
namespace Go.Proofs.Ytlkibehieekceaa
open Go.RowKit Go.Deep

/-- The cells of a job under way. -/
def jobF (tk : Int) (rel dl ex i left : Nat) : Nat → Value
  | 0 => .int .i64 tk
  | 1 => .int .i64 (rel : Int)
  | 2 => .int .i64 (dl : Int)
  | 3 => .int .i64 (ex : Int)
  | 4 => .int .i64 (i : Int)
  | _ => .int .i64 (left : Int)
/-- The cells of a server under way. -/
def srvF (q p k : Nat) (v : Value) (done : Nat) (s : SV) : Nat → Value
  | 0 => .int .i64 (q : Int)
  | 1 => .int .i64 (p : Int)
  | 2 => .int .i64 (k : Int)
  | 3 => v
  | 4 => .int .i64 (s.come : Int)
  | 5 => .int .i64 (s.head : Int)
  | 6 => .int .i64 (done : Int)
  | 7 => .int .i64 (s.left : Int)
  | _ => .int .i64 (s.dl : Int)
def jobI (g : Nat) (tk : Int) (rel dl ex i left : Nat) : It := itB g 143 6 (jobF tk rel dl ex i left)
def srvI (g q p k : Nat) (v : Value) (done : Nat) (s : SV) : It := itB g 146 9 (srvF q p k v done s)
/-- Since w0 only new blocks have turned; the family lies in them. -/
structure RS (w0 w : World) (D : Nm → Prop) (I : Nm → It) : Prop where
  be : Below w0.heap.size w0 w
  fm : Fam w w0.heap.size D I
variable {w0 w w' : World} {D : Nm → Prop} {I : Nm → It} {a : Nm}
theorem RS.below (h : RS w0 w D I) (hb : Below w.heap.size w w') : RS w0 w' D I := ⟨h.be.trans (hb.mono h.be.size), h.fm.below hb⟩
theorem RS.drew (h : RS w0 w D I) : RS w0 w.drew D I := h.below (Below.refl _ _).drew
theorem RS.setB {t : TypeId} {size g m : Nat} {F G : Nat → Value} (h : RS w0 w D I) (ha : D a) (hI : I a = itB g t size F) (hm : m < size) (x : Value) (e : ∀ k, k < size → (if k = m then x else F k) = G k) : RS w0 (w.setCell ⟨g, m, none⟩ x) D (updI I a (itB g t size G)) :=
  ⟨h.be.setCell (h.fm.box ha hI).2.1 x, h.fm.setB ha hI hm x e⟩
theorem RS.setI {g n cap m : Nat} {f f' : Nat → Int} {x : Int} (h : RS w0 w D I) (ha : D a) (hI : I a = itI (.slice (some ⟨g, 0, none⟩) n cap) n f) (hm : m < n) (e : ∀ k, k < n → (if k = m then x else f k) = f' k) : RS w0 (w.setCell ⟨g, m, none⟩ (.int .i64 x)) D (updI I a (itI (.slice (some ⟨g, 0, none⟩) n cap) n f')) :=
  ⟨h.be.setCell ((h.fm.lt ha g (by rw [hI]; rfl)).1) _, h.fm.setI ha hI hm e⟩
theorem OwnI.cells {w : World} {base g n cap : Nat} {f : Nat → Int} (h : OwnI w base (.slice (some ⟨g, 0, none⟩) n cap) n f) : (∀ k, w.frozen? ⟨g, k, none⟩ = false) ∧ ∀ k, k < n → w.cell? ⟨g, k, none⟩ = some (.int .i64 (f k)) := by
  obtain ⟨-, -, -, q4, q5⟩ := (ownI_F h).at
  exact ⟨q4, fun k hk => q5 k (by omega)⟩
theorem updI_id (I : Nm → It) {a : Nm} {i : It} (h : I a = i) : updI I a i = I := by
  funext b
  by_cases e : b = a
  · subst e; rw [updI_self, h]
  · rw [updI_ne _ _ e]

/-- impl.periodicJob.arrive. -/
theorem arriveJ_any {g rel dl ex i left now : Nat} {tk : Int} (h : RS w0 w D I) (ha : D a) (hI : I a = jobI g tk rel dl ex i left) :
    Calls Try.prog 169 #[.pointer (some ⟨g, 0, none⟩), .int .i64 (now : Int)] w fun e w' =>
      e = .returned (.tuple #[]) ∧ RS w0 w' D (updI I a (jobI g tk rel dl ex i (if rel = now then ex else left))) := by
  obtain ⟨-, -, z, x⟩ := h.fm.box ha hI
  have x1 : w.cell? ⟨g, 1, none⟩ = some (.int .i64 (rel : Int)) := x 1 (by omega)
  have x3 : w.cell? ⟨g, 3, none⟩ = some (.int .i64 (ex : Int)) := x 3 (by omega)
  have z5 := z 5
  have x5 := x 5 (by omega)
  have HH := Lib.hid h
  clear h x z
  unfold jobF at x5
  by_cases e : rel = now
  · subst e
    rw [if_pos rfl]
    go_enter Try.func169, Try.ntmps169
    go_wp2
    go_end0
    exact ⟨rfl, HH.out.setB ha hI (by omega) _ fun k hk => by
      match k, hk with
      | 0, _ | 1, _ | 2, _ | 3, _ | 4, _ | 5, _ => rfl⟩
  · rw [if_neg e]
    have hb : ((rel : Int) == (now : Int)) = false := by simp; omega
    clear e
    go_enter Try.func169, Try.ntmps169
    go_wp2
    go_end0
    exact ⟨rfl, by rw [updI_id _ hI]; exact HH.out⟩

/-- impl.periodicJob.pending. -/
theorem pendingJ_any {g rel dl ex i left : Nat} {tk : Int} (h : RS w0 w D I) (ha : D a) (hI : I a = jobI g tk rel dl ex i left) :
    Calls Try.prog 171 #[.pointer (some ⟨g, 0, none⟩)] w fun e w' => e = .returned (.bool (decide (0 < left))) ∧ w = w' := by
  obtain ⟨-, -, z, x⟩ := h.fm.box ha hI
  have x1 : w.cell? ⟨g, 5, none⟩ = some (.int .i64 (left : Int)) := x 5 (by omega)
  clear h x z
  go_enter Try.func171, Try.ntmps171
  go_wp2
  go_ret
  exact ⟨ret_bool (decide_eq_decide.2 (by omega)), rfl⟩

/-- impl.periodicJob.due. -/
theorem dueJ_any {g rel dl ex i left : Nat} {tk : Int} (h : RS w0 w D I) (ha : D a) (hI : I a = jobI g tk rel dl ex i left) :
    Calls Try.prog 170 #[.pointer (some ⟨g, 0, none⟩)] w fun e w' => e = .returned (.int .i64 (dl : Int)) ∧ w = w' := by
  obtain ⟨-, -, z, x⟩ := h.fm.box ha hI
  have x1 : w.cell? ⟨g, 2, none⟩ = some (.int .i64 (dl : Int)) := x 2 (by omega)
  clear h x z
  go_enter Try.func170, Try.ntmps170
  go_wp2
  go_ret
  exact ⟨rfl, rfl⟩

set_option maxRecDepth 100000 in
set_option maxHeartbeats 2000000 in
/-- impl.periodicJob.run. -/
theorem runJ_any {g gR gr gf rc fc nj rel dl ex i left now : Nat} {tk : Int} {vc vs : Value} {rn fn : Nat → Int} (h : RS w0 w D I) (ha : D a) (hI : I a = jobI g tk rel dl ex i left) (a0 : a ≠ (0, 0)) (a1 : a ≠ (1, 0)) (a2 : a ≠ (2, 0))
    (d0 : D (0, 0)) (i0 : I (0, 0) = itB gR 66 4 (outF (.slice (some ⟨gr, 0, none⟩) 120 rc) (.slice (some ⟨gf, 0, none⟩) nj fc) vc vs)) (d1 : D (1, 0)) (i1 : I (1, 0) = itI (.slice (some ⟨gr, 0, none⟩) 120 rc) 120 rn) (d2 : D (2, 0)) (i2 : I (2, 0) = itI (.slice (some ⟨gf, 0, none⟩) nj fc) nj fn)
    (hi : i < nj) (hn : now < 120) (hl : 0 < left) (hl2 : left ≤ 1000000) :
    Calls Try.prog 172 #[.pointer (some ⟨g, 0, none⟩), .int .i64 (now : Int), .pointer (some ⟨gR, 0, none⟩)] w fun e w' =>
      e = .returned (.tuple #[]) ∧ RS w0 w' D (updI (updI (updI I (1, 0) (itI (.slice (some ⟨gr, 0, none⟩) 120 rc) 120 (fun u => if u = now then (i : Int) else rn u))) a (jobI g tk rel dl ex i (left - 1))) (2, 0) (itI (.slice (some ⟨gf, 0, none⟩) nj fc) nj (fun u => if u = i ∧ left = 1 then (now : Int) + 1 else fn u))) := by
  obtain ⟨l, rfl⟩ : ∃ l, left = l + 1 := ⟨left - 1, by omega⟩
  obtain ⟨-, -, z, x⟩ := h.fm.box ha hI
  obtain ⟨-, -, zR, xR⟩ := h.fm.box d0 i0
  have y0 : w.cell? ⟨gR, 0, none⟩ = some (.slice (some ⟨gr, 0, none⟩) 120 rc) := xR 0 (by omega)
  have x4 : w.cell? ⟨g, 4, none⟩ = some (.int .i64 (i : Int)) := x 4 (by omega)
  obtain ⟨fr, cr⟩ := (h.fm.getI d1 i1).cells
  have fr0 := fr now
  have cr0 := cr now hn
  have s1 := h.setI (x := (i : Int)) (f' := fun u => if u = now then (i : Int) else rn u) d1 i1 hn (fun _ _ => rfl)
  have HS1 := Lib.hid s1.drew
  have hn0 : (0 : Int) ≤ now := by omega
  have hn1 : (now : Int) < 120 := by omega
  have hi0 : (0 : Int) ≤ i := by omega
  have hi1 : (i : Int) < nj := by omega
  clear h x z zR xR fr cr s1
  go_enter Try.func172, Try.ntmps172
  go_wp2
  go_region
  clear y0 x4 fr0 cr0
  obtain ⟨w1, hw1⟩ : ∃ w1, w1 = (w.setCell ⟨gr, now, none⟩ (.int .i64 (i : Int))).drew := ⟨_, rfl⟩
  rw [← hw1] at HS1
  rw [← hw1]
  clear hw1
  obtain ⟨I1, hI1⟩ : ∃ I1, I1 = updI I (1, 0) (itI (.slice (some ⟨gr, 0, none⟩) 120 rc) 120 (fun u => if u = now then (i : Int) else rn u)) := ⟨_, rfl⟩
  have j0 : I1 a = jobI g tk rel dl ex i (l + 1) := by rw [hI1, updI_ne _ _ a1]; exact hI
  have j1 : I1 (0, 0) = itB gR 66 4 (outF (.slice (some ⟨gr, 0, none⟩) 120 rc) (.slice (some ⟨gf, 0, none⟩) nj fc) vc vs) := by rw [hI1, updI_ne _ _ (by decide)]; exact i0
  have j2 : I1 (2, 0) = itI (.slice (some ⟨gf, 0, none⟩) nj fc) nj fn := by rw [hI1, updI_ne _ _ (by decide)]; exact i2
  rw [← hI1] at HS1
  have HI1 := Lib.hid hI1
  clear hI1 hI i0 i1 i2
  obtain ⟨-, -, z, x⟩ := HS1.out.fm.box ha j0
  have z5 := z 5
  have x5 : w1.cell? ⟨g, 5, none⟩ = some (.int .i64 ((l : Int) + 1)) := x 5 (by omega)
  have s2 := HS1.out.setB (x := .int .i64 (l : Int)) ha j0 (m := 5) (by omega) (G := jobF tk rel dl ex i l) (fun k hk => by
    match k, hk with
    | 0, _ | 1, _ | 2, _ | 3, _ | 4, _ | 5, _ => rfl)
  have k0 : updI I1 a (itB g 143 6 (jobF tk rel dl ex i l)) a = jobI g tk rel dl ex i l := updI_self _ _ _
  obtain ⟨-, -, z', x'⟩ := s2.fm.box ha k0
  have x5' : (w1.setCell ⟨g, 5, none⟩ (.int .i64 (l : Int))).cell? ⟨g, 5, none⟩ = some (.int .i64 (l : Int)) := x' 5 (by omega)
  have x4' : (w1.setCell ⟨g, 5, none⟩ (.int .i64 (l : Int))).cell? ⟨g, 4, none⟩ = some (.int .i64 (i : Int)) := x' 4 (by omega)
  have k1 := j1
  rw [← updI_ne I1 (itB g 143 6 (jobF tk rel dl ex i l)) (Ne.symm a0)] at k1
  have k2 := j2
  rw [← updI_ne I1 (itB g 143 6 (jobF tk rel dl ex i l)) (Ne.symm a2)] at k2
  obtain ⟨-, -, -, xR⟩ := s2.fm.box d0 k1
  have y1 : (w1.setCell ⟨g, 5, none⟩ (.int .i64 (l : Int))).cell? ⟨gR, 1, none⟩ = some (.slice (some ⟨gf, 0, none⟩) nj fc) := xR 1 (by omega)
  obtain ⟨fr, cr⟩ := (s2.fm.getI d2 k2).cells
  have fr0 := fr i
  have cr0 := cr i hi
  have x4 : w1.cell? ⟨g, 4, none⟩ = some (.int .i64 (i : Int)) := x 4 (by omega)
  have y1' : w1.cell? ⟨gR, 1, none⟩ = some (.slice (some ⟨gf, 0, none⟩) nj fc) := (HS1.out.fm.box d0 j1).2.2.2 1 (by omega)
  have HS2 := Lib.hid s2
  clear s2 z x z' x' xR fr cr HS1
  by_cases hl0 : l = 0
  · have hb : ((l : Int) == 0) = true := by simp; omega
    have HS3 := Lib.hid ((HS2.out.setI (x := (now : Int) + 1) (f' := fun u => if u = i ∧ l + 1 = 1 then (now : Int) + 1 else fn u) d2 k2 hi (fun u _ => by simp [hl0])).drew)
    clear hl0
    go_wp2
    go_region
    go_end0
    refine ⟨rfl, ?_⟩
    rw [← HI1.out]
    exact HS3.out
  · have hb : ((l : Int) == 0) = false := by simp; omega
    go_wp2
    go_end0
    refine ⟨rfl, ?_⟩
    have e : (fun u => if u = i ∧ l + 1 = 1 then (now : Int) + 1 else fn u) = fn := by
      funext u
      rw [if_neg (by omega)]
    rw [← HI1.out, e]
    show RS _ _ _ (updI (updI I1 a (itB g 143 6 (jobF tk rel dl ex i l))) _ _)
    rw [updI_id _ k2]
    exact HS2.out

end Go.Proofs.Ytlkibehieekceaa

namespace Go.Proofs.Ytlkibehieekceaa
open Go.RowKit Go.Deep
variable {w0 w w' : World} {D : Nm → Prop} {I : Nm → It} {a : Nm} {g q p k done : Nat} {v : Value} {s : SV}

set_option maxRecDepth 100000 in
/-- impl.activeServer.pending. -/
theorem pendingS_any (h : RS w0 w D I) (ha : D a) (hI : I a = srvI g q p k v done s) :
    Calls Try.prog 175 #[.pointer (some ⟨g, 0, none⟩)] w fun e w' => e = .returned (.bool (decide (s.head < s.come))) ∧ Below w.heap.size w w' := by
  obtain ⟨-, -, -, x⟩ := h.fm.box ha hI
  have x4 : w.cell? ⟨g, 4, none⟩ = some (.int .i64 (s.come : Int)) := x 4 (by omega)
  have x5 : w.cell? ⟨g, 5, none⟩ = some (.int .i64 (s.head : Int)) := x 5 (by omega)
  clear h x hI
  go_enter Try.func175, Try.ntmps175
  go_wp2
  go_quiet (fail)
  go_wp2
  go_ret
  exact ⟨ret_bool (decide_eq_decide.2 (by omega)), below_drewN' (Below.refl _ _) _⟩

/-- impl.activeServer.due. -/
theorem dueS_any (h : RS w0 w D I) (ha : D a) (hI : I a = srvI g q p k v done s) :
    Calls Try.prog 174 #[.pointer (some ⟨g, 0, none⟩)] w fun e w' => e = .returned (.int .i64 (s.dl : Int)) ∧ w = w' := by
  obtain ⟨-, -, -, x⟩ := h.fm.box ha hI
  have x1 : w.cell? ⟨g, 8, none⟩ = some (.int .i64 (s.dl : Int)) := x 8 (by omega)
  clear h x hI
  go_enter Try.func174, Try.ntmps174
  go_wp2
  go_ret
  exact ⟨rfl, rfl⟩

set_option maxRecDepth 100000 in
/-- impl.activeServer.restarts. -/
theorem restartsS_any {now : Nat} (h : RS w0 w D I) (ha : D a) (hI : I a = srvI g q p k v done s) (hs : SvLe s) (hq : q ≤ 12) (hp : p ≤ 12) (hn : now < 120) :
    Calls Try.prog 177 #[.pointer (some ⟨g, 0, none⟩), .int .i64 (now : Int)] w fun e w' => e = .returned (.bool (decide (((s.dl : Int) - now) * q ≤ (s.left : Int) * p))) ∧ Below w.heap.size w w' := by
  obtain ⟨-, -, -, x⟩ := h.fm.box ha hI
  have x0 : w.cell? ⟨g, 0, none⟩ = some (.int .i64 (q : Int)) := x 0 (by omega)
  have x1 : w.cell? ⟨g, 1, none⟩ = some (.int .i64 (p : Int)) := x 1 (by omega)
  have x7 : w.cell? ⟨g, 7, none⟩ = some (.int .i64 (s.left : Int)) := x 7 (by omega)
  have x8 : w.cell? ⟨g, 8, none⟩ = some (.int .i64 (s.dl : Int)) := x 8 (by omega)
  obtain ⟨s1, s2, -⟩ := hs
  clear h x hI
  have e1 : IntKind.i64.wrap ((s.left : Int) * p) = (s.left : Int) * p := by
    have : s.left * p ≤ 12 * 12 := Nat.mul_le_mul s1 hp
    have h2 : (s.left : Int) * p = ((s.left * p : Nat) : Int) := by simp
    rw [h2]
    exact IntWalk.i64_in _ (by omega)
  have e2 : IntKind.i64.wrap ((s.dl : Int) - now) = (s.dl : Int) - now := IntWalk.i64_in _ (by omega)
  have e3 : IntKind.i64.wrap (((s.dl : Int) - now) * q) = ((s.dl : Int) - now) * q := by
    have h1 : s.dl * q ≤ 4000 * 12 := Nat.mul_le_mul s2 hq
    have h2 : now * q ≤ 120 * 12 := Nat.mul_le_mul (by omega) hq
    have h3 : ((s.dl : Int) - now) * q = ((s.dl * q : Nat) : Int) - ((now * q : Nat) : Int) := by rw [Int.sub_mul]; simp
    rw [h3]
    exact IntWalk.i64_in _ (by omega)
  obtain ⟨X, hX⟩ : ∃ X, X = (s.left : Int) * p := ⟨_, rfl⟩
  obtain ⟨Y, hY⟩ : ∃ Y, Y = ((s.dl : Int) - now) * q := ⟨_, rfl⟩
  rw [← hX, ← hY]
  have HX := Lib.hid (And.intro hX hY)
  go_enter Try.func177, Try.ntmps177
  go_wp2
  go_quiet (fail)
  go_wp2
  go_ret
  exact ⟨ret_bool (by rw [HX.out.1, HX.out.2]), below_drewN' (Below.refl _ _) _⟩

/-- impl.activeServer.replenish. -/
theorem replenishS_any {from_ : Nat} (h : RS w0 w D I) (ha : D a) (hI : I a = srvI g q p k v done s) (hf : from_ ≤ 100000) (hp : p ≤ 12) :
    Calls Try.prog 178 #[.pointer (some ⟨g, 0, none⟩), .int .i64 (from_ : Int)] w fun e w' => e = .returned (.tuple #[]) ∧ RS w0 w' D (updI I a (srvI g q p k v done ⟨q, from_ + p, s.come, s.head, s.rest⟩)) := by
  obtain ⟨-, -, z, x⟩ := h.fm.box ha hI
  have x0 : w.cell? ⟨g, 0, none⟩ = some (.int .i64 (q : Int)) := x 0 (by omega)
  have x1 : w.cell? ⟨g, 1, none⟩ = some (.int .i64 (p : Int)) := x 1 (by omega)
  have x7 : w.cell? ⟨g, 7, none⟩ = some (.int .i64 (s.left : Int)) := x 7 (by omega)
  have x8 : w.cell? ⟨g, 8, none⟩ = some (.int .i64 (s.dl : Int)) := x 8 (by omega)
  have z7 := z 7
  have z8 := z 8
  have h1 := h.setB (x := .int .i64 (q : Int)) ha hI (m := 7) (by omega) (G := srvF q p k v done ⟨q, s.dl, s.come, s.head, s.rest⟩) (fun c hc => by
    match c, hc with
    | 0, _ | 1, _ | 2, _ | 3, _ | 4, _ | 5, _ | 6, _ | 7, _ | 8, _ => rfl)
  have h2 := h1.setB (x := .int .i64 ((from_ : Int) + p)) ha (updI_self _ _ _) (m := 8) (by omega) (G := srvF q p k v done ⟨q, from_ + p, s.come, s.head, s.rest⟩) (fun c hc => by
    match c, hc with
    | 0, _ | 1, _ | 2, _ | 3, _ | 4, _ | 5, _ | 6, _ | 7, _ => rfl
    | 8, _ => show Value.int .i64 ((from_ : Int) + p) = .int .i64 ((from_ + p : Nat) : Int); simp)
  rw [updI_updI] at h2
  have HH := Lib.hid h2
  clear h x z h1 h2 hI
  go_enter Try.func178, Try.ntmps178
  go_wp2
  go_end0
  exact ⟨rfl, HH.out⟩

/-- One request more has come. -/
theorem RS.come (h : RS w0 w D I) (ha : D a) (hI : I a = srvI g q p k v done s) (r : Nat) : RS w0 (w.setCell ⟨g, 4, none⟩ (.int .i64 ((s.come : Int) + 1))) D (updI I a (srvI g q p k v done ⟨s.left, s.dl, s.come + 1, s.head, r⟩)) :=
  h.setB ha hI (m := 4) (by omega) _ fun c hc => by
    match c, hc with
    | 0, _ | 1, _ | 2, _ | 3, _ | 4, _ | 5, _ | 6, _ | 7, _ | 8, _ => rfl
theorem RS.c4 (h : RS w0 w D I) (ha : D a) (hI : I a = srvI g q p k v done s) : w.cell? ⟨g, 4, none⟩ = some (.int .i64 (s.come : Int)) ∧ w.frozen? ⟨g, 4, none⟩ = false := by
  obtain ⟨-, -, z, x⟩ := h.fm.box ha hI
  exact ⟨x 4 (by omega), z 4⟩
theorem SvLe.take {now x : Nat} (h : SvLe s) (hq : q ≤ 12) (hp : p ≤ 12) (hn : now < 120) (hc : s.come + 1 ≤ 20) (hx : x ≤ 20) : SvLe (s.take q p x now) := by
  obtain ⟨h1, h2, h3, h4, h5⟩ := h
  unfold SV.take
  split
  · split
    · exact ⟨hq, by show now + p ≤ 4000; omega, hc, h4, hx⟩
    · exact ⟨h1, h2, hc, h4, hx⟩
  · exact ⟨h1, h2, hc, h4, h5⟩

set_option maxRecDepth 100000 in
set_option maxHeartbeats 2000000 in
/-- impl.activeServer.arrive. -/
theorem arriveS_any {aa : Option Addr} {acap now : Nat} {al : List A2} (h : RS w0 w D I) (ha : D a) (hI : I a = srvI g q p k (.slice aa al.length acap) done s) (hr : Row2 w0 aa al) (hal : alB al = true) (hc : s.come ≤ al.length) (hh : s.head ≤ s.come) (hs : SvLe s) (hq : q ≤ 12) (hp : p ≤ 12) (hn : now < 120) :
    Calls Try.prog 173 #[.pointer (some ⟨g, 0, none⟩), .int .i64 (now : Int)] w fun e w' =>
      e = .returned (.tuple #[]) ∧ RS w0 w' D (updI I a (srvI g q p k (.slice aa al.length acap) done (s.arr q p al now))) := by
  have HR := Lib.hid hr
  have HA := Lib.hid hal
  have h20 := (alB_iff.1 hal).1
  have H0 := Lib.hid (And.intro (show RS w0 w D (updI I a (srvI g q p k (.slice aa al.length acap) done s)) by rw [updI_id _ hI]; exact h) (And.intro hs hh))
  clear h hr hal hI hs hh
  go_enter Try.func173, Try.ntmps173
  go_wp2
  go_loopg [] (al.length - s.come) (fun m wr => ∃ c : SV, m = al.length - c.come ∧ RS w0 wr D (updI I a (srvI g q p k (.slice aa al.length acap) done c)) ∧ SvLe c ∧ c.head ≤ c.come ∧ c.come ≤ al.length ∧ c.arr q p al now = s.arr q p al now)
  case atStart => exact ⟨s, rfl, H0.out.1, H0.out.2.1, H0.out.2.2, hc, rfl⟩
  case round =>
    obtain ⟨c, hm, hL, hle, hhc, hcl, harr⟩ := hrel
    have HK := Lib.hid hm
    have HL := Lib.hid hL
    have HARR := Lib.hid harr
    have HLE := Lib.hid hle
    obtain ⟨-, -, -, x⟩ := hL.fm.box ha (updI_self _ _ _)
    have x3 : wr.cell? ⟨g, 3, none⟩ = some (.slice aa al.length acap) := x 3 (by omega)
    have x4 : wr.cell? ⟨g, 4, none⟩ = some (.int .i64 (c.come : Int)) := x 4 (by omega)
    clear hm hL harr hle H0 x
    by_cases hlt : c.come < al.length
    · obtain ⟨b, off, rfl, hbs, u0, u1⟩ := (HR.out.below HL.out.be) c.come hlt
      have hav := (alB_iff.1 HA.out).2 c.come hlt
      have hT : (ab al c.come).1 = (aT al c.come : Nat) := by rw [ab_T]; omega
      rw [hT] at u0
      obtain ⟨T, hTT⟩ : ∃ T, T = aT al c.come := ⟨_, rfl⟩
      rw [← hTT] at u0
      have HTX := Lib.hid hTT
      have HX := Lib.hid (show aX al c.come ≤ 20 by rw [ab_X]; omega)
      have hl1 : decide (c.come < al.length) = true := decide_eq_true hlt
      have hl2 : (c.come : Int) < al.length := by omega
      have hl3 : (0 : Int) ≤ c.come := by omega
      clear hav hT hTT u1
      by_cases hTn : T = now
      · have hTb : ((T : Int) == (now : Int)) = true := beq_iff_eq.2 (by omega)
        have HSTEP := Lib.hid (arr_step (q := q) (p := p) (now := now) (al := al) (s := c) ⟨hlt, by rw [← HTX.out]; exact hTn⟩)
        rw [HARR.out] at HSTEP
        have HNEW := Lib.hid (SvLe.take HLE.out hq hp hn (by omega) HX.out)
        have HC := Lib.hid (take_come c q p (aX al c.come) now)
        clear hTn
        go_wp2
        go_quiet (fail)
        go_wp2_with fail
        have HLq := Lib.hid (HL.out.below (below_drewN' (Below.refl _ _) nq))
        refine (pendingS_any HLq.out ha (updI_self _ _ _)).mono ?_
        rintro e w1 ⟨rfl, b1⟩
        have HL1 := Lib.hid (HLq.out.below b1)
        clear b1 HL HLq
        by_cases hid : c.head = c.come
        · rw [decide_eq_false (show ¬ c.head < c.come by omega)]
          go_wp2_with fail
          refine (restartsS_any HL1.out ha (updI_self _ _ _) HLE.out hq hp hn).mono ?_
          rintro e w2 ⟨rfl, b2⟩
          have HL2 := Lib.hid (HL1.out.below b2)
          clear b2 HL1
          by_cases hcond : ((c.dl : Int) - now) * q ≤ (c.left : Int) * p
          · rw [decide_eq_true hcond]
            have HT := Lib.hid (take_a (x := aX al c.come) hid hcond)
            clear hcond
            go_wp2_with fail
            refine (replenishS_any HL2.out ha (updI_self _ _ _) (by omega) hp).mono ?_
            rintro e w3 ⟨rfl, r3⟩
            rw [updI_updI] at r3
            obtain ⟨x4', z4'⟩ := r3.c4 ha (updI_self _ _ _)
            have r4 := r3.come ha (updI_self _ _ _) (aX al c.come)
            rw [updI_updI] at r4
            have HN := Lib.hid r4
            clear r3 r4 HL2
            go_wp2
            go_roundg (al.length - (c.come + 1))
            case measure => have := HK.out; omega
            case rel => exact ⟨c.take q p (aX al c.come) now, by rw [HC.out.1], by rw [HT.out]; exact HN.out, HNEW.out, by rw [HC.out.1, HC.out.2]; omega, by rw [HC.out.1]; omega, HSTEP.out.symm⟩
          · rw [decide_eq_false hcond]
            have HT := Lib.hid (take_b (x := aX al c.come) hid hcond)
            clear hcond
            obtain ⟨x4', z4'⟩ := HL2.out.c4 ha (updI_self _ _ _)
            have r4 := HL2.out.come ha (updI_self _ _ _) (aX al c.come)
            rw [updI_updI] at r4
            have HN := Lib.hid r4
            clear r4 HL2
            go_wp2
            go_roundg (al.length - (c.come + 1))
            case measure => have := HK.out; omega
            case rel => exact ⟨c.take q p (aX al c.come) now, by rw [HC.out.1], by rw [HT.out]; exact HN.out, HNEW.out, by rw [HC.out.1, HC.out.2]; omega, by rw [HC.out.1]; omega, HSTEP.out.symm⟩
        · rw [decide_eq_true (show c.head < c.come by omega)]
          have HT := Lib.hid (take_c (q := q) (p := p) (now := now) (x := aX al c.come) hid)
          obtain ⟨x4', z4'⟩ := HL1.out.c4 ha (updI_self _ _ _)
          have r4 := HL1.out.come ha (updI_self _ _ _) c.rest
          rw [updI_updI] at r4
          have HN := Lib.hid r4
          clear r4 HL1
          go_wp2
          go_roundg (al.length - (c.come + 1))
          case measure => have := HK.out; omega
          case rel => exact ⟨c.take q p (aX al c.come) now, by rw [HC.out.1], by rw [HT.out]; exact HN.out, HNEW.out, by rw [HC.out.1, HC.out.2]; omega, by rw [HC.out.1]; omega, HSTEP.out.symm⟩
      · have hTb : ((T : Int) == (now : Int)) = false := by simp; omega
        have HSTOP := Lib.hid (arr_stop (q := q) (p := p) (now := now) (al := al) (s := c) (by rw [← HTX.out]; omega))
        clear hTn
        go_wp2
        go_quiet (fail)
        go_wp2
        go_end0
        exact ⟨rfl, by rw [← HARR.out, HSTOP.out]; exact HL.out.below (below_drewN' (Below.refl _ _) _)⟩
    · have hl1 : decide (c.come < al.length) = false := decide_eq_false hlt
      have HSTOP := Lib.hid (arr_stop (q := q) (p := p) (now := now) (al := al) (s := c) (by omega))
      clear hlt
      go_wp2
      go_quiet (fail)
      go_wp2
      go_end0
      exact ⟨rfl, by rw [← HARR.out, HSTOP.out]; exact HL.out.below (below_drewN' (Below.refl _ _) _)⟩

end Go.Proofs.Ytlkibehieekceaa

namespace Go.Proofs.Ytlkibehieekceaa
open Go.RowKit Go.Deep
variable {w0 w w' : World} {D : Nm → Prop} {I : Nm → It} {a : Nm} {g q p k done : Nat} {v : Value} {s : SV}

theorem updI_comm (I : Nm → It) {a b : Nm} (i j : It) (h : a ≠ b) : updI (updI I a i) b j = updI (updI I b j) a i := by
  funext c
  unfold updI
  by_cases e1 : c = b
  · rw [if_pos e1, if_neg (fun e => h (e.symm.trans e1)), if_pos e1]
  · rw [if_neg e1, if_neg e1]
theorem srvI_eq {done' : Nat} {s' : SV} (h0 : done = done') (h1 : s.left = s'.left) (h2 : s.dl = s'.dl) (h3 : s.come = s'.come) (h4 : s.head = s'.head) : srvI g q p k v done s = srvI g q p k v done' s' := by
  obtain ⟨l, d, c, h, r⟩ := s
  obtain ⟨l', d', c', h', r'⟩ := s'
  simp only at h1 h2 h3 h4
  subst h0 h1 h2 h3 h4
  rfl
theorem RS.cs (h : RS w0 w D I) (ha : D a) (hI : I a = srvI g q p k v done s) : (w.cell? ⟨g, 2, none⟩ = some (.int .i64 (k : Int)) ∧ w.cell? ⟨g, 3, none⟩ = some v ∧ w.cell? ⟨g, 5, none⟩ = some (.int .i64 (s.head : Int)) ∧ w.cell? ⟨g, 6, none⟩ = some (.int .i64 (done : Int)) ∧ w.cell? ⟨g, 7, none⟩ = some (.int .i64 (s.left : Int)) ∧ w.cell? ⟨g, 8, none⟩ = some (.int .i64 (s.dl : Int))) ∧ ∀ c, w.frozen? ⟨g, c, none⟩ = false := by
  obtain ⟨-, -, z, x⟩ := h.fm.box ha hI
  exact ⟨⟨x 2 (by omega), x 3 (by omega), x 5 (by omega), x 6 (by omega), x 7 (by omega), x 8 (by omega)⟩, z⟩
/-- A store into a server's cell. -/
theorem RS.setS {done' : Nat} {s' : SV} {m : Nat} {x : Value} (h : RS w0 w D I) (ha : D a) (hI : I a = srvI g q p k v done s) (hm : m < 9) (e : ∀ c, c < 9 → (if c = m then x else srvF q p k v done s c) = srvF q p k v done' s' c) : RS w0 (w.setCell ⟨g, m, none⟩ x) D (updI I a (srvI g q p k v done' s')) := h.setB ha hI hm x e
theorem serve_left {al : List A2} {l : Nat} (h : s.left = l + 1) : (s.serve q p al).left = if l = 0 then q else l := by
  show (if s.left - 1 = 0 then q else s.left - 1) = _
  rw [h, Nat.add_sub_cancel]
theorem serve_dl {al : List A2} {l : Nat} (h : s.left = l + 1) : (s.serve q p al).dl = if l = 0 then s.dl + p else s.dl := by
  show (if s.left - 1 = 0 then s.dl + p else s.dl) = _
  rw [h, Nat.add_sub_cancel]
theorem serve_hd {al : List A2} (h : 1 ≤ s.rest) : (s.serve q p al).head = if s.rest = 1 then s.head + 1 else s.head := by
  show (if s.rest - 1 = 0 then s.head + 1 else s.head) = _
  by_cases e : s.rest = 1
  · rw [if_pos e, if_pos (by omega)]
  · rw [if_neg e, if_neg (by omega)]

/-- What a tick of service leaves of the family. -/
def srvDone (I : Nm → It) (a : Nm) (g q p k : Nat) (v vc vi : Value) (N : Nat) (al : List A2) (s : SV) (ch d : Nat → Int) (now : Nat) : Nm → It :=
  updI (updI (updI I (3, 0) (itI vc 120 (fun u => if u = now then (k : Int) else ch u))) (6, k) (itI vi N (fun u => if u = s.head ∧ s.rest = 1 then (now : Int) + 1 else d u))) a (srvI g q p k v (dnOf al (s.serve q p al)) (s.serve q p al))

set_option maxRecDepth 100000 in
set_option maxHeartbeats 4000000 in
/-- impl.activeServer.run. -/
theorem runS_any {gR gc cc gv vcap gi icap N ns acap now : Nat} {aa : Option Addr} {al : List A2} {vr vf : Value} {iv : Nat → Value} {ch d : Nat → Int} (h : RS w0 w D I) (ha : D a) (hI : I a = srvI g q p k (.slice aa al.length acap) (dnOf al s) s)
    (a0 : a ≠ (0, 0)) (a3 : a ≠ (3, 0)) (a4 : a ≠ (4, 0)) (a6 : a ≠ (6, k))
    (d0 : D (0, 0)) (i0 : I (0, 0) = itB gR 66 4 (outF vr vf (.slice (some ⟨gc, 0, none⟩) 120 cc) (.slice (some ⟨gv, 0, none⟩) ns vcap))) (d3 : D (3, 0)) (i3 : I (3, 0) = itI (.slice (some ⟨gc, 0, none⟩) 120 cc) 120 ch)
    (d4 : D (4, 0)) (i4 : I (4, 0) = itV (.slice (some ⟨gv, 0, none⟩) ns vcap) ns iv) (hiv : iv k = .slice (some ⟨gi, 0, none⟩) N icap) (d6 : D (6, k)) (i6 : I (6, k) = itI (.slice (some ⟨gi, 0, none⟩) N icap) N d)
    (hr : Row2 w0 aa al) (hal : alB al = true) (hN : N = al.length) (hk : k < ns) (hn : now < 120) (hok : SvOk q al s) (hp : s.head < s.come) (hs : SvLe s) (hro : RestOk al s) (hp2 : p ≤ 12) :
    Calls Try.prog 176 #[.pointer (some ⟨g, 0, none⟩), .int .i64 (now : Int), .pointer (some ⟨gR, 0, none⟩)] w fun e w' =>
      e = .returned (.tuple #[]) ∧ RS w0 w' D (srvDone I a g q p k (.slice aa al.length acap) (.slice (some ⟨gc, 0, none⟩) 120 cc) (.slice (some ⟨gi, 0, none⟩) N icap) N al s ch d now) := by
  obtain ⟨l, hl⟩ : ∃ l, s.left = l + 1 := ⟨s.left - 1, by have := hok.l1; omega⟩
  have hr1 := hok.r1 hp
  have hhl : s.head < al.length := Nat.lt_of_lt_of_le hp hok.cl
  have hX1 := hro hp
  have hX2 := al_x hal hhl
  have h20 := (alB_iff.1 hal).1
  obtain ⟨DN, hDN⟩ : ∃ DN, DN = dnOf al s := ⟨_, rfl⟩
  have hDN2 : DN + s.rest = aX al s.head := by rw [hDN]; unfold dnOf; rw [if_pos hp]; omega
  have HSV := Lib.hid (And.intro (dnOf_serve (q := q) (p := p) hro hp hr1) (And.intro (serve_left (q := q) (p := p) (al := al) hl) (And.intro (serve_dl (q := q) (p := p) (al := al) hl) (serve_hd (q := q) (p := p) (al := al) hr1))))
  rw [← hDN] at HSV hI
  obtain ⟨sl, sd, -⟩ := hs
  have HR := Lib.hid hr
  have hav := (alB_iff.1 hal).2 s.head hhl
  have hXX : (ab al s.head).2 = (aX al s.head : Nat) := by rw [ab_X]; omega
  obtain ⟨b, off, eb, hbs, -, u1⟩ := hr s.head hhl
  rw [hXX] at u1
  obtain ⟨X, hX⟩ : ∃ X, X = aX al s.head := ⟨_, rfl⟩
  rw [← hX] at u1 hDN2 hX1 hX2
  have HU := Lib.hid u1
  subst eb
  obtain ⟨⟨x2, x3, x5, x6, x7, x8⟩, z⟩ := h.cs ha hI
  have y2 : w.cell? ⟨gR, 2, none⟩ = some (.slice (some ⟨gc, 0, none⟩) 120 cc) := (h.fm.box d0 i0).2.2.2 2 (by omega)
  obtain ⟨fr, cr⟩ := (h.fm.getI d3 i3).cells
  have fr0 := fr now
  have cr0 := cr now hn
  have s1 := h.setI (x := (k : Int)) (f' := fun u => if u = now then (k : Int) else ch u) d3 i3 hn (fun _ _ => rfl)
  have HS1 := Lib.hid s1.drew
  have hn0 : (0 : Int) ≤ now := by omega
  have hn1 : (now : Int) < 120 := by omega
  have hk0 : (0 : Int) ≤ k := by omega
  have hk1 : (k : Int) < ns := by omega
  have hh0 : (0 : Int) ≤ s.head := by omega
  have hh1 : (s.head : Int) < al.length := by omega
  have hhN : s.head < N := by omega
  have HP := Lib.hid (And.intro hok (And.intro hp (And.intro hro (And.intro hal (And.intro hr hDN)))))
  have HE := Lib.hid (And.intro hDN2 (And.intro hl hN))
  have hlb : l ≤ 12 := by omega
  have hDNb : DN ≤ 20 := by omega
  have HIV := Lib.hid hiv
  clear h z fr cr s1 hok hp hro hal hr hav hXX u1 hDN hX x3 x5 x6 x7 x8 hr1 hDN2 hl hN hiv sl hX1
  go_enter Try.func176, Try.ntmps176
  go_wp2
  go_region
  clear y2 x2 fr0 cr0
  obtain ⟨w1, hw1⟩ : ∃ w1, w1 = (w.setCell ⟨gc, now, none⟩ (.int .i64 (k : Int))).drew := ⟨_, rfl⟩
  rw [← hw1] at HS1
  rw [← hw1]
  clear hw1
  obtain ⟨I1, hI1⟩ : ∃ I1, I1 = updI I (3, 0) (itI (.slice (some ⟨gc, 0, none⟩) 120 cc) 120 (fun u => if u = now then (k : Int) else ch u)) := ⟨_, rfl⟩
  have j0 : I1 a = srvI g q p k (.slice (some ⟨b, off, none⟩) al.length acap) DN s := by rw [hI1, updI_ne _ _ a3]; exact hI
  have j1 : I1 (0, 0) = itB gR 66 4 (outF vr vf (.slice (some ⟨gc, 0, none⟩) 120 cc) (.slice (some ⟨gv, 0, none⟩) ns vcap)) := by rw [hI1, updI_ne _ _ (by decide)]; exact i0
  have j4 : I1 (4, 0) = itV (.slice (some ⟨gv, 0, none⟩) ns vcap) ns iv := by rw [hI1, updI_ne _ _ (by decide)]; exact i4
  have j6 : I1 (6, k) = itI (.slice (some ⟨gi, 0, none⟩) N icap) N d := by rw [hI1, updI_ne _ _ (by simp)]; exact i6
  rw [← hI1] at HS1
  have HI1 := Lib.hid hI1
  clear hI1 hI i0 i3 i4 i6
  obtain ⟨⟨-, -, -, x6, -, -⟩, z⟩ := HS1.out.cs ha j0
  have z6 := z 6
  have s2 := HS1.out.setS (x := .int .i64 ((DN : Int) + 1)) (done' := DN + 1) (s' := s) (m := 6) ha j0 (by omega) (fun c hc => by
    match c, hc with
    | 0, _ | 1, _ | 2, _ | 3, _ | 4, _ | 5, _ | 6, _ | 7, _ | 8, _ => rfl)
  obtain ⟨w2, hw2⟩ : ∃ w2, w2 = w1.setCell ⟨g, 6, none⟩ (.int .i64 ((DN : Int) + 1)) := ⟨_, rfl⟩
  rw [← hw2] at s2
  have HS2 := Lib.hid s2
  clear z s2 HS1
  go_wp2
  rw [← hw2]
  clear hw2 x6 z6
  obtain ⟨⟨-, x3, x5, x6, -, -⟩, -⟩ := HS2.out.cs ha (updI_self _ _ _)
  have u2 := (HS2.out.be.cell (p := ⟨b, off + s.head * 2 + 1, none⟩) hbs).trans HU.out
  have hx6 : w2.cell? ⟨g, 6, none⟩ = some (.int .i64 ((DN : Int) + 1)) := x6
  clear x6
  by_cases hre0 : s.rest = 1
  · have hb : (((DN : Int) + 1) == (X : Int)) = true := beq_iff_eq.2 (by have := HE.out.1; omega)
    have HRE := Lib.hid hre0
    clear hre0
    go_wp2
    go_quiet (fail)
    go_wp2
    obtain ⟨w3, hw3⟩ : ∃ w3, w3 = w2.drewN nq := ⟨_, rfl⟩
    have HS3 := Lib.hid (show RS w0 w3 D _ by rw [hw3]; exact HS2.out.below (below_drewN' (Below.refl _ _) nq))
    rw [← hw3]
    clear hw3 x3 x5 hx6 u2 HS2 hb
    have k1 := j1
    rw [← updI_ne I1 (srvI g q p k (.slice (some ⟨b, off, none⟩) al.length acap) (DN + 1) s) (Ne.symm a0)] at k1
    have k4 := j4
    rw [← updI_ne I1 (srvI g q p k (.slice (some ⟨b, off, none⟩) al.length acap) (DN + 1) s) (Ne.symm a4)] at k4
    have k6 := j6
    rw [← updI_ne I1 (srvI g q p k (.slice (some ⟨b, off, none⟩) al.length acap) (DN + 1) s) (Ne.symm a6)] at k6
    have y3 : w3.cell? ⟨gR, 3, none⟩ = some (.slice (some ⟨gv, 0, none⟩) ns vcap) := (HS3.out.fm.box d0 k1).2.2.2 3 (by omega)
    obtain ⟨⟨x2, -, x5, -, -, -⟩, -⟩ := HS3.out.cs ha (updI_self _ _ _)
    have y4 : w3.cell? ⟨gv, k, none⟩ = some (.slice (some ⟨gi, 0, none⟩) N icap) := by
      have h1 := HS3.out.fm.ow _ d4
      rw [k4] at h1
      obtain ⟨-, -, -, -, q5⟩ := OwnF.at (show OwnF 26 1 w3 w0.heap.size (.slice (some ⟨gv, 0, none⟩) ns vcap) ns iv from h1)
      rw [q5 k (by omega), HIV.out]
    obtain ⟨fr, cr⟩ := (HS3.out.fm.getI d6 k6).cells
    have fr0 := fr s.head
    have cr0 := cr s.head hhN
    have hhN' : (s.head : Int) < N := by omega
    have s4 := (HS3.out.setI (x := (now : Int) + 1) (f' := fun u => if u = s.head ∧ s.rest = 1 then (now : Int) + 1 else d u) d6 k6 hhN (fun u _ => by simp [HRE.out])).drew
    obtain ⟨w4, hw4⟩ : ∃ w4, w4 = (w3.setCell ⟨gi, s.head, none⟩ (.int .i64 ((now : Int) + 1))).drew := ⟨_, rfl⟩
    rw [← hw4, updI_comm _ _ _ a6] at s4
    have HS4 := Lib.hid s4
    clear fr cr s4 HS3
    have HW4 := Lib.hid hw4
    clear hw4
    go_region
    rw [← HW4.out]
    clear HW4 y3 y4 x2 x5 fr0 cr0 k1 k4 k6
    obtain ⟨⟨-, -, x5, x6, x7, x8⟩, z⟩ := HS4.out.cs ha (updI_self _ _ _)
    have z5 := z 5
    have z6 := z 6
    have z7 := z 7
    have hx6 : w4.cell? ⟨g, 6, none⟩ = some (.int .i64 ((DN : Int) + 1)) := x6
    have hx7 : w4.cell? ⟨g, 7, none⟩ = some (.int .i64 ((l : Int) + 1)) := by rw [x7, HE.out.2.1]; rfl
    clear x6 x7 z
    have s5 := HS4.out.setS (x := .int .i64 ((s.head : Int) + 1)) (done' := DN + 1) (s' := ⟨s.left, s.dl, s.come, s.head + 1, 0⟩) (m := 5) ha (updI_self _ _ _) (by omega) (fun c hc => by
      match c, hc with
      | 0, _ | 1, _ | 2, _ | 3, _ | 4, _ | 5, _ | 6, _ | 7, _ | 8, _ => rfl)
    rw [updI_updI] at s5
    have s6 := s5.setS (x := .int .i64 0) (done' := 0) (s' := ⟨s.left, s.dl, s.come, s.head + 1, 0⟩) (m := 6) ha (updI_self _ _ _) (by omega) (fun c hc => by
      match c, hc with
      | 0, _ | 1, _ | 2, _ | 3, _ | 4, _ | 5, _ | 6, _ | 7, _ | 8, _ => rfl)
    rw [updI_updI] at s6
    have HS6 := Lib.hid s6
    clear s5 s6 HS4
    have s7 := HS6.out.setS (x := .int .i64 (l : Int)) (done' := 0) (s' := ⟨l, s.dl, s.come, s.head + 1, 0⟩) (m := 7) ha (updI_self _ _ _) (by omega) (fun c hc => by
      match c, hc with
      | 0, _ | 1, _ | 2, _ | 3, _ | 4, _ | 5, _ | 6, _ | 7, _ | 8, _ => rfl)
    rw [updI_updI] at s7
    have HS7 := Lib.hid s7
    clear s7 HS6
    by_cases hl0' : l = 0
    · have hb : ((l : Int) == 0) = true := by simp; omega
      have HL0 := Lib.hid hl0'
      clear hl0'
      go_wp2_with fail
      refine (replenishS_any HS7.out ha (updI_self _ _ _) (by omega) hp2).mono ?_
      rintro e w8 ⟨rfl, r8⟩
      rw [updI_updI] at r8
      have HS8 := Lib.hid r8
      clear r8 HS7
      go_wp2
      go_end0
      refine ⟨rfl, ?_⟩
      unfold srvDone
      rw [← HI1.out]
      rw [srvI_eq (g := g) (q := q) (p := p) (k := k) (v := (.slice (some ⟨b, off, none⟩) al.length acap)) (s := s.serve q p al) (done' := 0) (s' := ⟨q, s.dl + p, s.come, s.head + 1, 0⟩) (by rw [HSV.out.1, if_pos HRE.out]) (by rw [HSV.out.2.1, if_pos HL0.out]) (by rw [HSV.out.2.2.1, if_pos HL0.out]) rfl (by rw [HSV.out.2.2.2, if_pos HRE.out])]
      exact HS8.out
    · have hb : ((l : Int) == 0) = false := by simp; omega
      have HL0 := Lib.hid hl0'
      clear hl0'
      go_wp2
      go_end0
      refine ⟨rfl, ?_⟩
      unfold srvDone
      rw [← HI1.out]
      rw [srvI_eq (g := g) (q := q) (p := p) (k := k) (v := (.slice (some ⟨b, off, none⟩) al.length acap)) (s := s.serve q p al) (done' := 0) (s' := ⟨l, s.dl, s.come, s.head + 1, 0⟩) (by rw [HSV.out.1, if_pos HRE.out]) (by rw [HSV.out.2.1, if_neg HL0.out]) (by rw [HSV.out.2.2.1, if_neg HL0.out]) rfl (by rw [HSV.out.2.2.2, if_pos HRE.out])]
      exact HS7.out
  · have hb : (((DN : Int) + 1) == (X : Int)) = false := by have := HE.out.1; simp; omega
    have HRE := Lib.hid hre0
    clear hre0
    go_wp2
    go_quiet (fail)
    have HS3 := Lib.hid (HS2.out.below (below_drewN' (Below.refl _ _) nq))
    obtain ⟨w3, hw3⟩ : ∃ w3, w3 = w2.drewN nq := ⟨_, rfl⟩
    rw [← hw3] at HS3
    rw [← hw3]
    clear hw3 x3 x5 hx6 u2 HS2 hb
    obtain ⟨⟨-, -, -, -, x7, x8⟩, z⟩ := HS3.out.cs ha (updI_self _ _ _)
    have z7 := z 7
    have hx7 : w3.cell? ⟨g, 7, none⟩ = some (.int .i64 ((l : Int) + 1)) := by rw [x7, HE.out.2.1]; rfl
    clear x7 z
    have efn : (fun u => if u = s.head ∧ s.rest = 1 then (now : Int) + 1 else d u) = d := by
      funext u
      rw [if_neg (fun h => HRE.out h.2)]
    have s7 := HS3.out.setS (x := .int .i64 (l : Int)) (done' := (DN + 1)) (s' := ⟨l, s.dl, s.come, s.head, 0⟩) (m := 7) ha (updI_self _ _ _) (by omega) (fun c hc => by
      match c, hc with
      | 0, _ | 1, _ | 2, _ | 3, _ | 4, _ | 5, _ | 6, _ | 7, _ | 8, _ => rfl)
    rw [updI_updI] at s7
    have HS7 := Lib.hid s7
    clear s7 HS3
    by_cases hl0' : l = 0
    · have hb : ((l : Int) == 0) = true := by simp; omega
      have HL0 := Lib.hid hl0'
      clear hl0'
      go_wp2_with fail
      refine (replenishS_any HS7.out ha (updI_self _ _ _) (by omega) hp2).mono ?_
      rintro e w8 ⟨rfl, r8⟩
      rw [updI_updI] at r8
      have HS8 := Lib.hid r8
      clear r8 HS7
      go_wp2
      go_end0
      refine ⟨rfl, ?_⟩
      unfold srvDone
      rw [← HI1.out]
      rw [efn, updI_id _ j6, srvI_eq (g := g) (q := q) (p := p) (k := k) (v := (.slice (some ⟨b, off, none⟩) al.length acap)) (s := s.serve q p al) (done' := (DN + 1)) (s' := ⟨q, s.dl + p, s.come, s.head, 0⟩) (by rw [HSV.out.1, if_neg HRE.out]) (by rw [HSV.out.2.1, if_pos HL0.out]) (by rw [HSV.out.2.2.1, if_pos HL0.out]) rfl (by rw [HSV.out.2.2.2, if_neg HRE.out])]
      exact HS8.out
    · have hb : ((l : Int) == 0) = false := by simp; omega
      have HL0 := Lib.hid hl0'
      clear hl0'
      go_wp2
      go_end0
      refine ⟨rfl, ?_⟩
      unfold srvDone
      rw [← HI1.out]
      rw [efn, updI_id _ j6, srvI_eq (g := g) (q := q) (p := p) (k := k) (v := (.slice (some ⟨b, off, none⟩) al.length acap)) (s := s.serve q p al) (done' := (DN + 1)) (s' := ⟨l, s.dl, s.come, s.head, 0⟩) (by rw [HSV.out.1, if_neg HRE.out]) (by rw [HSV.out.2.1, if_neg HL0.out]) (by rw [HSV.out.2.2.1, if_neg HL0.out]) rfl (by rw [HSV.out.2.2.2, if_neg HRE.out])]
      exact HS7.out

end Go.Proofs.Ytlkibehieekceaa

namespace Go.Proofs.Ytlkibehieekceaa
open Go.RowKit Go.Deep

/-- append to a slice of one's own, in a region that draws: the result lies in its block or in the next new one. -/
theorem wp_append_at {P : Program} (w : World) {o : Oper} {a : Act} {K : Act → World → Prop} {Q : Exit → Act → World → Prop} (s x : Operand) (t : TypeId)
    (ho : o.op = .call { callee := .builtin .append, args := #[s, x], argTypes := #[t, t] })
    (base : Nat) (e : TypeId) (i : TypeInfo) (z : Value) (size bytes : Nat) (ht : P.underlying t = some (.slice e)) (hi : P.info? e = some i) (hz : i.zero = some z)
    (hsize : i.size = size) (hby : i.bytes = bytes) (hzs : z.cells.size = size) (hsz : 0 < size)
    (v : Value) (n : Nat) (xs : List Value) (hs : a.eval s = v) (hown : w.ownsRow base e size v n xs)
    (ad : Addr) (m c : Nat) (news : List Value) (hx : a.eval x = .slice (some ad) m c) (hl : news.length = m * size) (hnews : ∀ j u, news[j]? = some u → w.cell? (ad.add j) = some u) (h1 : ∀ u ∈ news, u.oneCell' = true)
    (h63 : n + m ≤ maxLen) (hbytes : (n + m) * bytes ≤ 140737488355328) (hbase : base ≤ w.heap.size) (hm : 0 < m)
    (h : ∀ v' w', w'.ownsRow base e size v' (n + m) (xs ++ news) → w.grownBy w' v.ownBlock → (v'.ownBlock = v.ownBlock ∨ v'.ownBlock = some w.heap.size) → v' ≠ .slice none 0 0 → K (a.put o.dst v') w') : o.wp P a w K Q := by
  obtain ⟨v', w', hr, h2, h3, h4, h5⟩ := append_at (P := P) w base t o.type e i z size bytes ht hi hz hsize hby hzs hsz v n xs hown ad m c news hl hnews h1 h63 hbytes hbase hm
  unfold Oper.wp execOp
  simp only [ho, resolve, invoke, builtin, Sem.run_bind, Sem.run_pure, Result.andThen_ok, List.map_toArray, List.map_cons, List.map_nil, hs, hx, hr]
  exact h v' w' h2 h3 h4 h5

/-- Where the simulation's values lie. -/
structure SP where
  gR : Nat
  vr : Value
  vf : Value
  vc : Value
  vs : Value
  va : Value
  iv : Nat → Value
  gj : Nat → Nat
  gs : Nat → Nat
  av : Nat → Value
  gZ : Nat
/-- What they are. -/
structure ST5 where
  lf : Nat → Nat
  sv : Nat → SV
  rn : Nat → Int
  fn : Nat → Int
  ch : Nat → Int
  d : Nat → Nat → Int
/-- A contender: a job or a server. -/
def ifcV (gj gs : Nat → Nat) (nj c : Nat) : Value := if c < nj then .iface 141 (.pointer (some ⟨gj c, 0, none⟩)) else .iface 144 (.pointer (some ⟨gs (c - nj), 0, none⟩))
def itC (v : Value) (n : Nat) (F : Nat → Value) : It := ⟨v, 113, 1, n, F⟩
/-- The family: 0 the result, 1 to 4 its slices, 5 the contenders, 6 what is served, 7 the jobs, 8 the servers, 9 the place of what is returned. -/
def fI (js : List J4) (ss : List A2) (als : List (List A2)) (P : SP) (nv nc : Nat) (S : ST5) (a : Nm) : It :=
  match a.1 with
  | 0 => itB P.gR 66 4 (outF P.vr P.vf P.vc P.vs)
  | 1 => itI P.vr 120 S.rn
  | 2 => itI P.vf js.length S.fn
  | 3 => itI P.vc 120 S.ch
  | 4 => itV P.vs nv P.iv
  | 5 => itC P.va nc (ifcV P.gj P.gs js.length)
  | 6 => itI (P.iv a.2) (als.getD a.2 []).length (S.d a.2)
  | 7 => jobI (P.gj a.2) (jb js a.2).1 (jrel js a.2) (jdl js a.2) (jex js a.2) a.2 (S.lf a.2)
  | 8 => srvI (P.gs a.2) (aT ss a.2) (aX ss a.2) a.2 (P.av a.2) (dnOf (als.getD a.2 []) (S.sv a.2)) (S.sv a.2)
  | _ => itB P.gZ 66 4 (fun _ => .slice none 0 0)

/-! ### impl.emptyRun -/
/-- The names while the result is made, k patterns done. -/
def eD (k : Nat) (a : Nm) : Prop := ((a.1 ≤ 4 ∨ a.1 = 9) ∧ a.2 = 0) ∨ (a.1 = 6 ∧ a.2 < k)
theorem eD0 (k : Nat) : eD k (0, 0) := .inl ⟨.inl (Nat.zero_le _), rfl⟩
theorem eD4 (k : Nat) : eD k (4, 0) := .inl ⟨.inl (Nat.le_refl _), rfl⟩
theorem eD9 (k : Nat) : eD k (9, 0) := .inl ⟨.inr rfl, rfl⟩
def eP (gR gZ : Nat) (vr vf vc vs : Value) (iv : Nat → Value) : SP := ⟨gR, vr, vf, vc, vs, .slice none 0 0, iv, fun _ => 0, fun _ => 0, fun _ => .slice none 0 0, gZ⟩
def eS : ST5 := ⟨fun _ => 0, fun _ => ⟨0, 0, 0, 0, 0⟩, fun _ => -1, fun _ => -1, fun _ => -1, fun _ _ => -1⟩
variable {w0 w w' : World} {js : List J4} {als : List (List A2)} {gR gZ k : Nat} {vr vf vc vs x : Value} {iv : Nat → Value}
theorem not_eD (k : Nat) : ¬ eD k (6, k) := by
  rintro (⟨h, _⟩ | ⟨_, h⟩)
  · have h' : 6 ≤ 4 ∨ 6 = 9 := h
    omega
  · exact Nat.lt_irrefl _ h
theorem fI_iv {ss : List A2} {P P' : SP} {nv nv' nc : Nat} {S : ST5} {a : Nm} (h4 : a.1 ≠ 4) (h0 : a.1 = 0 → P.gR = P'.gR ∧ P.vs = P'.vs) (h6 : a.1 = 6 → P.iv a.2 = P'.iv a.2) (hv : P.vr = P'.vr ∧ P.vf = P'.vf ∧ P.vc = P'.vc ∧ P.va = P'.va ∧ P.gj = P'.gj ∧ P.gs = P'.gs ∧ P.av = P'.av ∧ P.gZ = P'.gZ) : fI js ss als P nv nc S a = fI js ss als P' nv' nc S a := by
  obtain ⟨n, m⟩ := a
  obtain ⟨e1, e2, e3, e4, e5, e6, e7, e8⟩ := hv
  unfold fI
  match n, h4, h0, h6 with
  | 0, _, h0, _ => simp only [(h0 rfl).1, (h0 rfl).2, e1, e2, e3]
  | 1, _, _, _ => simp only [e1]
  | 2, _, _, _ => simp only [e2]
  | 3, _, _, _ => simp only [e3]
  | 4, h4, _, _ => exact absurd rfl h4
  | 5, _, _, _ => simp only [e4, e5, e6]
  | 6, _, _, h6 => simp only; rw [show P.iv m = P'.iv m from h6 rfl]
  | 7, _, _, _ => simp only [e5]
  | 8, _, _, _ => simp only [e6, e7]
  | n + 9, _, _, _ => simp only [e8]
/-- One pattern's slice more. -/
theorem RS.inner (h : RS w0 w (eD k) (fI js [] als (eP gR gZ vr vf vc vs iv) k 0 eS)) (hb : Below w.heap.size w w') (ho : OwnI w' w.heap.size x (als.getD k []).length (fun _ => -1)) :
    RS w0 w' (eD (k + 1)) (fI js [] als (eP gR gZ vr vf vc vs (fun l => if l = k then x else iv l)) k 0 eS) := by
  refine ⟨h.be.trans (hb.mono h.be.size), ?_⟩
  have h1 := (h.fm.add (i := itI x (als.getD k []).length (fun _ => -1)) (not_eD k) hb (ownI_F ho) h.be.size).sub (D' := eD (k + 1)) (by
    rintro ⟨a, b⟩ (⟨h1, h2⟩ | ⟨h1, h2⟩)
    · exact .inr (.inl ⟨h1, h2⟩)
    · by_cases e : b = k
      · exact .inl (by simp only at h1; rw [h1, e])
      · exact .inr (.inr ⟨h1, by simp only at h2 ⊢; omega⟩))
  have h2 := h1.congr (a := (4, 0)) (G := fun l => if l = k then x else iv l) (eD4 _) (by
    rw [updI_ne _ _ (by simp)]
    intro l hl
    have hl' : l < k * 1 := hl
    show iv l = if l = k then x else iv l
    rw [if_neg (by omega)])
  refine h2.same fun a ha => ?_
  by_cases e4 : a = (4, 0)
  · subst e4
    rw [updI_self, updI_ne _ _ (by simp)]
    rfl
  · rw [updI_ne _ _ e4]
    by_cases e6 : a = (6, k)
    · subst e6
      rw [updI_self]
      show _ = itI (if k = k then x else iv k) _ _
      rw [if_pos rfl]
      rfl
    · rw [updI_ne _ _ e6]
      refine fI_iv (fun e => e4 ?_) (fun _ => ⟨rfl, rfl⟩) (fun e => ?_) ⟨rfl, rfl, rfl, rfl, rfl, rfl, rfl, rfl⟩
      · rcases ha with ⟨_, h2⟩ | ⟨h1, _⟩
        · exact Prod.ext e h2
        · rw [e] at h1; exact absurd h1 (by decide)
      · show iv a.2 = if a.2 = k then x else iv a.2
        rw [if_neg (fun h => e6 (Prod.ext e h))]
/-- The slice of slices has grown. -/
theorem RS.served {v' u : Value} {m : Nat} (h : RS w0 w (eD m) (fI js [] als (eP gR gZ vr vf vc vs iv) k 0 eS)) (hu : iv k = u) (ho : w'.ownsRow w0.heap.size 26 1 v' (k + 1) (vF iv (k * 1) ++ [u])) (hg : w.grownBy w' vs.ownBlock) (hp : v'.ownBlock = vs.ownBlock ∨ v'.ownBlock = some w.heap.size) :
    RS w0 w' (eD m) (updI (fI js [] als (eP gR gZ vr vf vc vs iv) k 0 eS) (4, 0) (itV v' (k + 1) iv)) := by
  refine ⟨h.be.grown hg h.be.size (fun l hl => (h.fm.lt (eD4 m) l hl).1), h.fm.push (a := (4, 0)) (G := iv) (eD4 _) ?_ (fun l _ => rfl) hg hp⟩
  show w'.ownsRow w0.heap.size 26 1 v' (k + 1) (vF iv (k * 1) ++ [iv (k * 1 + 0)])
  rw [show k * 1 + 0 = k by omega, hu]
  exact ho
/-- It is stored into the result. -/
theorem RS.result3 {v' : Value} {m : Nat} (h : RS w0 w (eD m) (updI (fI js [] als (eP gR gZ vr vf vc vs iv) k 0 eS) (4, 0) (itV v' (k + 1) iv))) :
    RS w0 (w.setCell ⟨gR, 3, none⟩ v') (eD m) (fI js [] als (eP gR gZ vr vf vc v' iv) (k + 1) 0 eS) := by
  have h1 := h.setB (a := (0, 0)) (g := gR) (t := 66) (size := 4) (F := outF vr vf vc vs) (m := 3) (G := outF vr vf vc v') (eD0 m) (updI_ne _ _ (by decide)) (by omega) v' (fun c hc => by
    match c, hc with
    | 0, _ | 1, _ | 2, _ | 3, _ => rfl)
  refine ⟨h1.be, h1.fm.same fun a ha => ?_⟩
  by_cases e0 : a = (0, 0)
  · subst e0
    rw [updI_self]
    rfl
  · rw [updI_ne _ _ e0]
    by_cases e4 : a = (4, 0)
    · subst e4
      rw [updI_self]
      rfl
    · rw [updI_ne _ _ e4]
      refine fI_iv (fun e => e4 ?_) (fun e => absurd ?_ e0) (fun _ => rfl) ⟨rfl, rfl, rfl, rfl, rfl, rfl, rfl, rfl⟩
      · rcases ha with ⟨_, h2⟩ | ⟨h1, _⟩
        · exact Prod.ext e h2
        · rw [e] at h1; exact absurd h1 (by decide)
      · rcases ha with ⟨_, h2⟩ | ⟨h1, _⟩
        · exact Prod.ext e h2
        · rw [e] at h1; exact absurd h1 (by decide)

theorem Fam.none (w : World) (base : Nat) (I : Nm → It) : Fam w base (fun _ => False) I := ⟨fun _ h => h.elim, fun _ _ _ h => h.elim⟩
/-- The result as it is first laid. -/
theorem RS.empty {u0 u1 u2 u3 : World} (hb : Below w0.heap.size w0 u0) (hz : OwnF 66 4 u0 w0.heap.size (.slice (some ⟨gZ, 0, none⟩) 1 1) 1 (fun _ => .slice none 0 0)) (b1 : Below u0.heap.size u0 u1) (o1 : OwnI u1 u0.heap.size vr 120 (fun _ => -1)) (b2 : Below u1.heap.size u1 u2) (o2 : OwnI u2 u1.heap.size vf js.length (fun _ => -1))
    (b3 : Below u2.heap.size u2 u3) (o3 : OwnI u3 u2.heap.size vc 120 (fun _ => -1)) : RS w0 (u3.alloc (.cells #[vr, vf, vc, .slice none 0 0] 66)) (eD 0) (fI js [] als (eP u3.heap.size gZ vr vf vc (.slice none 0 0) iv) 0 0 eS) := by
  have s0 := hb.size
  have s1 := b1.size
  have s2 := b2.size
  have s3 := b3.size
  have f0 : Fam u0 w0.heap.size (And1 (fun _ => False) (9, 0)) (updI (fI js [] als (eP u3.heap.size gZ vr vf vc (.slice none 0 0) iv) 0 0 eS) (9, 0) (itB gZ 66 4 (fun _ => .slice none 0 0))) := by
    refine ⟨fun a ha => ?_, fun a b hne ha hb' => absurd ((ha.resolve_right id).trans (hb'.resolve_right id).symm) hne⟩
    obtain rfl := ha.resolve_right id
    rw [updI_self]
    exact hz
  have f1 := f0.add (a := (1, 0)) (i := itI vr 120 (fun _ => -1)) (by simp [And1]) b1 (ownI_F o1) (by omega)
  have f2 := f1.add (a := (2, 0)) (i := itI vf js.length (fun _ => -1)) (by simp [And1]) b2 (ownI_F o2) (by omega)
  have f3 := f2.add (a := (3, 0)) (i := itI vc 120 (fun _ => -1)) (by simp [And1]) b3 (ownI_F o3) (by omega)
  have f4 := f3.add (a := (0, 0)) (i := itB u3.heap.size 66 4 (outF vr vf vc (.slice none 0 0))) (by simp [And1]) (below_box u3 (.cells #[vr, vf, vc, .slice none 0 0] 66)) (own_box u3 _ 4 _ _ rfl (fun c hc => by
    match c, hc with
    | 0, _ | 1, _ | 2, _ | 3, _ => rfl)) (by omega)
  have f5 := f4.add (a := (4, 0)) (i := itV (.slice none 0 0) 0 iv) (by simp [And1]) (Below.refl _ _) (OwnF.nil _ _ _ _ _) (by simp; omega)
  refine ⟨(((hb.trans (b1.mono s0)).trans (b2.mono (by omega))).trans (b3.mono (by omega))).trans ((below_box _ _).mono (by omega)), (f5.sub ?_).same ?_⟩
  · rintro ⟨a, b⟩ (⟨h1, h2⟩ | ⟨_, h2⟩)
    · simp only at h1 h2
      subst h2
      unfold And1
      simp only [Prod.mk.injEq, and_true, or_false]
      omega
    · exact absurd h2 (Nat.not_lt_zero _)
  · rintro ⟨a, b⟩ (⟨h1, h2⟩ | ⟨_, h2⟩)
    · simp only at h1 h2
      subst h2
      have h3 : a = 0 ∨ a = 1 ∨ a = 2 ∨ a = 3 ∨ a = 4 ∨ a = 9 := by omega
      rcases h3 with rfl | rfl | rfl | rfl | rfl | rfl <;> simp [updI] <;> rfl
    · exact absurd h2 (Nat.not_lt_zero _)

set_option maxRecDepth 100000 in
set_option maxHeartbeats 2000000 in
/-- impl.emptyRun. -/
theorem emptyRun_any (ja aa : Option Addr) (jcap acap : Nat) (js : List J4) (als : List (List A2)) (w : World) (h60 : js.length ≤ 60) (hA : RowSS w aa als) (h2 : als.length ≤ 2) (h20 : ∀ k, k < als.length → (als.getD k []).length ≤ 20) :
    Calls Try.prog 88 #[.slice ja js.length jcap, .slice aa als.length acap] w fun e w' =>
      ∃ (gR gZ : Nat) (vr vf vc vs : Value) (iv : Nat → Value), e = .returned (.agg #[vr, vf, vc, vs]) ∧ RS w w' (fun a => eD als.length a ∧ a ≠ (9, 0)) (fI js [] als (eP gR gZ vr vf vc vs iv) als.length 0 eS) := by
  obtain ⟨iV, hi, hz, hsz, hby⟩ := info_parts isInfo
  have HIV := Lib.hid (And.intro hi (And.intro hz (And.intro hsz hby)))
  clear hi hz hsz hby
  have HA := Lib.hid hA
  have H20 := Lib.hid h20
  clear hA h20
  go_enter Try.func88, Try.ntmps88
  go_wp2_with fail
  refine (missing_any 120 _ (by omega)).mono ?_
  rintro e u1 ⟨vr, rfl, o1, b1⟩
  obtain ⟨ra, rcap, rfl⟩ := own_shape o1
  have H1 := Lib.hid (And.intro o1 b1)
  clear o1 b1
  go_wp2_with fail
  refine (missing_any js.length _ (by omega)).mono ?_
  rintro e u2 ⟨vf, rfl, o2, b2⟩
  obtain ⟨fa, fcap, rfl⟩ := own_shape o2
  have H2 := Lib.hid (And.intro o2 b2)
  clear o2 b2
  go_wp2_with fail
  refine (missing_any 120 _ (by omega)).mono ?_
  rintro e u3 ⟨vc, rfl, o3, b3⟩
  obtain ⟨ca, ccap, rfl⟩ := own_shape o3
  have L0 := Lib.hid (RS.empty (w0 := w) (als := als) (iv := fun _ => .slice none 0 0) (below_box _ _) (own_box w _ 4 #[.slice none 0 0, .slice none 0 0, .slice none 0 0, .slice none 0 0] _ rfl (fun c hc => by
    match c, hc with
    | 0, _ | 1, _ | 2, _ | 3, _ => rfl)) H1.out.2 H1.out.1 H2.out.2 H2.out.1 b3 o3)
  obtain ⟨gR, hgR⟩ : ∃ gR, gR = u3.heap.size := ⟨_, rfl⟩
  rw [← hgR] at L0
  clear o3 b3 H1 H2
  go_wp2
  rw [← hgR]
  clear hgR
  go_loopg [17] als.length (fun m z wr => ∃ (k : Nat) (vs : Value) (iv : Nat → Value), m + k = als.length ∧ z = .int .i64 k ∧ RS w wr (eD k) (fI js [] als (eP gR w.heap.size (.slice ra 120 rcap) (.slice fa js.length fcap) (.slice ca 120 ccap) vs iv) k 0 eS))
  case atStart => exact ⟨0, _, _, by omega, rfl, L0.out⟩
  case round =>
    obtain ⟨k, vs, iv, hk, rfl, hL⟩ := hrel
    have HK := Lib.hid hk
    have HL := Lib.hid hL
    have hkk : k ≤ als.length := by omega
    obtain ⟨va, vcap, rfl⟩ := own_shape (show OwnF 26 1 wr w.heap.size vs k iv from hL.fm.ow (4, 0) (eD4 _))
    have y3 : wr.cell? ⟨gR, 3, none⟩ = some (.slice va k vcap) := (hL.fm.box (a := (0, 0)) (eD0 _) rfl).2.2.2 3 (by omega)
    clear hk hL L0
    by_cases hlt : k < als.length
    · obtain ⟨ba, oa, ad, dcap, rfl, hba, d0, -, -⟩ := (HA.out.below HL.out.be) k hlt
      obtain ⟨N, hN⟩ : ∃ N, N = (als.getD k []).length := ⟨_, rfl⟩
      have hN20 : N ≤ 20 := by rw [hN]; exact H20.out k hlt
      rw [← hN] at d0
      have HN := Lib.hid hN
      clear hN
      go_wp2
      refine wp_region_held_drew (S := fun _ => True) (by kernel_rfl) ?_ (fun hHeld => ?_)
      · (try dsimp only)
        all_goals exact True.intro
      refine wpAnyH_take (i := 0) (v := ?_) (toArr_get _ 0 _ rfl) (by kernel_rfl) (by kernel_rfl) (by kernel_rfl) (fun _ _ _ h => h) (Or.inl ⟨by rfl, ?_⟩) (by assumption) ?_
      rotate_left
      · (intro w hSw; (try dsimp only at hSw); go_simp; (try with_reducible rfl))
      (try simp only [Act.put, List.setIfInBounds_toArray, List.set_cons_zero, List.set_cons_succ])
      refine wpAnyH_take (i := 2) (v := ?_) (toArr_get _ 2 _ rfl) (by kernel_rfl) (by kernel_rfl) (by kernel_rfl) (fun _ _ _ h => h) (Or.inl ⟨by rfl, ?_⟩) (by assumption) ?_
      rotate_left
      · (intro w hSw; (try dsimp only at hSw); go_simp; (try with_reducible rfl))
      (try simp only [Act.put, List.setIfInBounds_toArray, List.set_cons_zero, List.set_cons_succ])
      refine wpAnyH_take (i := 3) (v := ?_) (toArr_get _ 3 _ rfl) (by kernel_rfl) (by kernel_rfl) (by kernel_rfl) (fun _ _ _ h => h) (Or.inl ⟨by rfl, ?_⟩) (by assumption) ?_
      rotate_left
      · (intro w hSw; (try dsimp only at hSw); go_simp; (try with_reducible rfl))
      (try simp only [Act.put, List.setIfInBounds_toArray, List.set_cons_zero, List.set_cons_succ])
      refine wpAnyH_ready (rs := [1, 4]) (by kernel_rfl) (by simp) ?_
      refine AllReadyH.cons (toArr_get _ 1 _ rfl) (fun K hK => ?_) ?_
      · go_simp
        refine hK.out _ _ ?_ (fun hHeld2 => ?_)
        · (try dsimp only)
          all_goals exact True.intro
        clear hK K hHeld
        have hHeld := hHeld2
        clear hHeld2
        (try simp only [Act.put, List.setIfInBounds_toArray, List.set_cons_zero, List.set_cons_succ])
        refine wpAnyH_ready (rs := [4]) (by kernel_rfl) (by simp) ?_
        refine AllReadyH.cons (toArr_get _ 4 _ rfl) (fun K hK => ?_) ?_
        · go_simp
          refine (missing_any N _ (by omega)).mono ?_
          rintro e w4 ⟨vi, rfl, o4, b4⟩
          obtain ⟨ia, icap, rfl⟩ := own_shape o4
          have L4 := Lib.hid (HL.out.drew.inner (x := .slice ia N icap) b4 (by rw [← HN.out]; exact o4))
          have y4 : w4.cell? ⟨gR, 3, none⟩ = some (.slice va k vcap) := (L4.out.fm.box (eD0 _) rfl).2.2.2 3 (by omega)
          have y5 : (w4.alloc (.cells #[.slice ia N icap] 26)).cell? ⟨gR, 3, none⟩ = some (.slice va k vcap) := (((L4.out.below (below_box _ _))).fm.box (eD0 _) rfl).2.2.2 3 (by omega)
          clear o4 b4
          go_wp2_with fail
          refine hK.out _ _ ?_ (fun hHeld2 => ?_)
          · (try dsimp only)
            all_goals exact True.intro
          clear hK K hHeld
          have hHeld := hHeld2
          clear hHeld2
          (try simp only [Act.put, List.setIfInBounds_toArray, List.set_cons_zero, List.set_cons_succ])
          refine wpAnyH_ready (rs := [5]) (by kernel_rfl) (by simp) ?_
          refine AllReadyH.cons (toArr_get _ 5 _ rfl) (fun K hK => ?_) ?_
          · go_simp
            refine hK.out _ _ ?_ (fun hHeld2 => ?_)
            · (try dsimp only)
              all_goals exact True.intro
            clear hK K hHeld
            have hHeld := hHeld2
            clear hHeld2
            (try simp only [Act.put, List.setIfInBounds_toArray, List.set_cons_zero, List.set_cons_succ])
            refine wpAnyH_ready (rs := [6]) (by kernel_rfl) (by simp) ?_
            refine AllReadyH.cons (toArr_get _ 6 _ rfl) (fun K hK => ?_) ?_
            · rw [if_pos (by rfl)]
              refine wp_append_at _ (.tmp 22) (.tmp 26) 64 rfl w.heap.size 26 iV _ 1 24 Try.underlying64 HIV.out.1 HIV.out.2.1 HIV.out.2.2.1 HIV.out.2.2.2 rfl (by decide) _ k (vF (fun l => if l = k then .slice ia N icap else iv l) (k * 1)) rfl ((L4.out.below (below_box _ _)).fm.ow (4, 0) (eD4 _)) ⟨w4.heap.size, 0, none⟩ 1 1 [.slice ia N icap] rfl rfl (news1v _ _ _) (one1s _ _ _) (by unfold maxLen; omega) (by omega) (by have := L4.out.be.size; simp; omega) (by decide) ?_
              intro v6 w6 ho6 hg6 hp6 hn6
              have L6 := Lib.hid ((L4.out.below (below_box _ _)).served (if_pos rfl) ho6 hg6 hp6)
              obtain ⟨sa, scap, rfl⟩ := own_shape ho6
              have z6 : w6.frozen? ⟨gR, 3, none⟩ = false := (L6.out.fm.box (eD0 _) rfl).2.2.1 3
              have y6 : w6.cell? ⟨gR, 3, none⟩ = some (.slice va k vcap) := (L6.out.fm.box (eD0 _) rfl).2.2.2 3 (by omega)
              clear ho6 hg6 hp6 hn6
              refine hK.out _ _ ?_ (fun hHeld2 => ?_)
              · (try dsimp only)
                all_goals exact True.intro
              clear hK K hHeld
              have hHeld := hHeld2
              clear hHeld2
              (try simp only [Act.put, List.setIfInBounds_toArray, List.set_cons_zero, List.set_cons_succ])
              refine wpAnyH_take (i := 7) (v := ?_) (toArr_get _ 7 _ rfl) (by kernel_rfl) (by kernel_rfl) (by kernel_rfl) (fun _ _ _ h => h) (Or.inl ⟨by rfl, ?_⟩) (by assumption) ?_
              rotate_left
              · (intro w hSw; (try dsimp only at hSw); go_simp; (try with_reducible rfl))
              (try simp only [Act.put, List.setIfInBounds_toArray, List.set_cons_zero, List.set_cons_succ])
              refine wpAnyH_ready (rs := [8]) (by kernel_rfl) (by simp) ?_
              refine AllReadyH.cons (toArr_get _ 8 _ rfl) (fun K hK => ?_) ?_
              · go_simp
                refine hK.out _ _ ?_ (fun hHeld2 => ?_)
                · (try dsimp only)
                  all_goals exact True.intro
                clear hK K hHeld
                have hHeld := hHeld2
                clear hHeld2
                (try simp only [Act.put, List.setIfInBounds_toArray, List.set_cons_zero, List.set_cons_succ])
                refine wpAnyH_done (by kernel_rfl) ?_ _
                have L8 := Lib.hid (L6.out.result3)
                go_wp2
                go_roundg (gk - 1)
                case measure => have := HK.out; omega
                case rel => exact ⟨k + 1, _, _, by have := HK.out; omega, by go_num, L8.out⟩
              exact AllReadyH.nil
            exact AllReadyH.nil
          exact AllReadyH.nil
        exact AllReadyH.nil
      refine AllReadyH.cons (toArr_get _ 4 _ rfl) (fun K hK => ?_) ?_
      · go_simp
        refine (missing_any N _ (by omega)).mono ?_
        rintro e w4 ⟨vi, rfl, o4, b4⟩
        obtain ⟨ia, icap, rfl⟩ := own_shape o4
        have L4 := Lib.hid (HL.out.drew.inner (x := .slice ia N icap) b4 (by rw [← HN.out]; exact o4))
        have y4 : w4.cell? ⟨gR, 3, none⟩ = some (.slice va k vcap) := (L4.out.fm.box (eD0 _) rfl).2.2.2 3 (by omega)
        have y5 : (w4.alloc (.cells #[.slice ia N icap] 26)).cell? ⟨gR, 3, none⟩ = some (.slice va k vcap) := (((L4.out.below (below_box _ _))).fm.box (eD0 _) rfl).2.2.2 3 (by omega)
        clear o4 b4
        go_wp2_with fail
        refine hK.out _ _ ?_ (fun hHeld2 => ?_)
        · (try dsimp only)
          all_goals exact True.intro
        clear hK K hHeld
        have hHeld := hHeld2
        clear hHeld2
        (try simp only [Act.put, List.setIfInBounds_toArray, List.set_cons_zero, List.set_cons_succ])
        refine wpAnyH_ready (rs := [1, 5]) (by kernel_rfl) (by simp) ?_
        refine AllReadyH.cons (toArr_get _ 1 _ rfl) (fun K hK => ?_) ?_
        · go_simp
          refine hK.out _ _ ?_ (fun hHeld2 => ?_)
          · (try dsimp only)
            all_goals exact True.intro
          clear hK K hHeld
          have hHeld := hHeld2
          clear hHeld2
          (try simp only [Act.put, List.setIfInBounds_toArray, List.set_cons_zero, List.set_cons_succ])
          refine wpAnyH_ready (rs := [5]) (by kernel_rfl) (by simp) ?_
          refine AllReadyH.cons (toArr_get _ 5 _ rfl) (fun K hK => ?_) ?_
          · go_simp
            refine hK.out _ _ ?_ (fun hHeld2 => ?_)
            · (try dsimp only)
              all_goals exact True.intro
            clear hK K hHeld
            have hHeld := hHeld2
            clear hHeld2
            (try simp only [Act.put, List.setIfInBounds_toArray, List.set_cons_zero, List.set_cons_succ])
            refine wpAnyH_ready (rs := [6]) (by kernel_rfl) (by simp) ?_
            refine AllReadyH.cons (toArr_get _ 6 _ rfl) (fun K hK => ?_) ?_
            · rw [if_pos (by rfl)]
              refine wp_append_at _ (.tmp 22) (.tmp 26) 64 rfl w.heap.size 26 iV _ 1 24 Try.underlying64 HIV.out.1 HIV.out.2.1 HIV.out.2.2.1 HIV.out.2.2.2 rfl (by decide) _ k (vF (fun l => if l = k then .slice ia N icap else iv l) (k * 1)) rfl ((L4.out.below (below_box _ _)).fm.ow (4, 0) (eD4 _)) ⟨w4.heap.size, 0, none⟩ 1 1 [.slice ia N icap] rfl rfl (news1v _ _ _) (one1s _ _ _) (by unfold maxLen; omega) (by omega) (by have := L4.out.be.size; simp; omega) (by decide) ?_
              intro v6 w6 ho6 hg6 hp6 hn6
              have L6 := Lib.hid ((L4.out.below (below_box _ _)).served (if_pos rfl) ho6 hg6 hp6)
              obtain ⟨sa, scap, rfl⟩ := own_shape ho6
              have z6 : w6.frozen? ⟨gR, 3, none⟩ = false := (L6.out.fm.box (eD0 _) rfl).2.2.1 3
              have y6 : w6.cell? ⟨gR, 3, none⟩ = some (.slice va k vcap) := (L6.out.fm.box (eD0 _) rfl).2.2.2 3 (by omega)
              clear ho6 hg6 hp6 hn6
              refine hK.out _ _ ?_ (fun hHeld2 => ?_)
              · (try dsimp only)
                all_goals exact True.intro
              clear hK K hHeld
              have hHeld := hHeld2
              clear hHeld2
              (try simp only [Act.put, List.setIfInBounds_toArray, List.set_cons_zero, List.set_cons_succ])
              refine wpAnyH_take (i := 7) (v := ?_) (toArr_get _ 7 _ rfl) (by kernel_rfl) (by kernel_rfl) (by kernel_rfl) (fun _ _ _ h => h) (Or.inl ⟨by rfl, ?_⟩) (by assumption) ?_
              rotate_left
              · (intro w hSw; (try dsimp only at hSw); go_simp; (try with_reducible rfl))
              (try simp only [Act.put, List.setIfInBounds_toArray, List.set_cons_zero, List.set_cons_succ])
              refine wpAnyH_ready (rs := [8]) (by kernel_rfl) (by simp) ?_
              refine AllReadyH.cons (toArr_get _ 8 _ rfl) (fun K hK => ?_) ?_
              · go_simp
                refine hK.out _ _ ?_ (fun hHeld2 => ?_)
                · (try dsimp only)
                  all_goals exact True.intro
                clear hK K hHeld
                have hHeld := hHeld2
                clear hHeld2
                (try simp only [Act.put, List.setIfInBounds_toArray, List.set_cons_zero, List.set_cons_succ])
                refine wpAnyH_done (by kernel_rfl) ?_ _
                have L8 := Lib.hid (L6.out.result3)
                go_wp2
                go_roundg (gk - 1)
                case measure => have := HK.out; omega
                case rel => exact ⟨k + 1, _, _, by have := HK.out; omega, by go_num, L8.out⟩
              exact AllReadyH.nil
            exact AllReadyH.nil
          exact AllReadyH.nil
        refine AllReadyH.cons (toArr_get _ 5 _ rfl) (fun K hK => ?_) ?_
        · go_simp
          refine hK.out _ _ ?_ (fun hHeld2 => ?_)
          · (try dsimp only)
            all_goals exact True.intro
          clear hK K hHeld
          have hHeld := hHeld2
          clear hHeld2
          (try simp only [Act.put, List.setIfInBounds_toArray, List.set_cons_zero, List.set_cons_succ])
          refine wpAnyH_ready (rs := [1]) (by kernel_rfl) (by simp) ?_
          refine AllReadyH.cons (toArr_get _ 1 _ rfl) (fun K hK => ?_) ?_
          · go_simp
            refine hK.out _ _ ?_ (fun hHeld2 => ?_)
            · (try dsimp only)
              all_goals exact True.intro
            clear hK K hHeld
            have hHeld := hHeld2
            clear hHeld2
            (try simp only [Act.put, List.setIfInBounds_toArray, List.set_cons_zero, List.set_cons_succ])
            refine wpAnyH_ready (rs := [6]) (by kernel_rfl) (by simp) ?_
            refine AllReadyH.cons (toArr_get _ 6 _ rfl) (fun K hK => ?_) ?_
            · rw [if_pos (by rfl)]
              refine wp_append_at _ (.tmp 22) (.tmp 26) 64 rfl w.heap.size 26 iV _ 1 24 Try.underlying64 HIV.out.1 HIV.out.2.1 HIV.out.2.2.1 HIV.out.2.2.2 rfl (by decide) _ k (vF (fun l => if l = k then .slice ia N icap else iv l) (k * 1)) rfl ((L4.out.below (below_box _ _)).fm.ow (4, 0) (eD4 _)) ⟨w4.heap.size, 0, none⟩ 1 1 [.slice ia N icap] rfl rfl (news1v _ _ _) (one1s _ _ _) (by unfold maxLen; omega) (by omega) (by have := L4.out.be.size; simp; omega) (by decide) ?_
              intro v6 w6 ho6 hg6 hp6 hn6
              have L6 := Lib.hid ((L4.out.below (below_box _ _)).served (if_pos rfl) ho6 hg6 hp6)
              obtain ⟨sa, scap, rfl⟩ := own_shape ho6
              have z6 : w6.frozen? ⟨gR, 3, none⟩ = false := (L6.out.fm.box (eD0 _) rfl).2.2.1 3
              have y6 : w6.cell? ⟨gR, 3, none⟩ = some (.slice va k vcap) := (L6.out.fm.box (eD0 _) rfl).2.2.2 3 (by omega)
              clear ho6 hg6 hp6 hn6
              refine hK.out _ _ ?_ (fun hHeld2 => ?_)
              · (try dsimp only)
                all_goals exact True.intro
              clear hK K hHeld
              have hHeld := hHeld2
              clear hHeld2
              (try simp only [Act.put, List.setIfInBounds_toArray, List.set_cons_zero, List.set_cons_succ])
              refine wpAnyH_take (i := 7) (v := ?_) (toArr_get _ 7 _ rfl) (by kernel_rfl) (by kernel_rfl) (by kernel_rfl) (fun _ _ _ h => h) (Or.inl ⟨by rfl, ?_⟩) (by assumption) ?_
              rotate_left
              · (intro w hSw; (try dsimp only at hSw); go_simp; (try with_reducible rfl))
              (try simp only [Act.put, List.setIfInBounds_toArray, List.set_cons_zero, List.set_cons_succ])
              refine wpAnyH_ready (rs := [8]) (by kernel_rfl) (by simp) ?_
              refine AllReadyH.cons (toArr_get _ 8 _ rfl) (fun K hK => ?_) ?_
              · go_simp
                refine hK.out _ _ ?_ (fun hHeld2 => ?_)
                · (try dsimp only)
                  all_goals exact True.intro
                clear hK K hHeld
                have hHeld := hHeld2
                clear hHeld2
                (try simp only [Act.put, List.setIfInBounds_toArray, List.set_cons_zero, List.set_cons_succ])
                refine wpAnyH_done (by kernel_rfl) ?_ _
                have L8 := Lib.hid (L6.out.result3)
                go_wp2
                go_roundg (gk - 1)
                case measure => have := HK.out; omega
                case rel => exact ⟨k + 1, _, _, by have := HK.out; omega, by go_num, L8.out⟩
              exact AllReadyH.nil
            exact AllReadyH.nil
          exact AllReadyH.nil
        exact AllReadyH.nil
      exact AllReadyH.nil
    · obtain rfl : k = als.length := by omega
      have HZ := Lib.hid (show (∀ c, wr.frozen? ⟨w.heap.size, c, none⟩ = false) ∧ ∀ c, c < 4 → wr.cell? ⟨w.heap.size, c, none⟩ = some (.slice none 0 0) from (HL.out.fm.box (a := (9, 0)) (eD9 _) rfl).2.2)
      have z0 := HZ.out.1 0
      have z1 := HZ.out.1 1
      have z2 := HZ.out.1 2
      have z3 := HZ.out.1 3
      have v0 := HZ.out.2 0 (by omega)
      have v1 := HZ.out.2 1 (by omega)
      have v2 := HZ.out.2 2 (by omega)
      have v3 := HZ.out.2 3 (by omega)
      have HX := Lib.hid (HL.out.fm.box (a := (0, 0)) (eD0 _) rfl)
      have o0 : wr.cell? ⟨gR, 0, none⟩ = some (.slice ra 120 rcap) := HX.out.2.2.2 0 (by omega)
      have o1 : wr.cell? ⟨gR, 1, none⟩ = some (.slice fa js.length fcap) := HX.out.2.2.2 1 (by omega)
      have o2 : wr.cell? ⟨gR, 2, none⟩ = some (.slice ca 120 ccap) := HX.out.2.2.2 2 (by omega)
      go_wp2
      refine bodyPost_ret (v := .agg #[.slice ra 120 rcap, .slice fa js.length fcap, .slice ca 120 ccap, .slice va als.length vcap]) ?_ rfl ⟨gR, w.heap.size, _, _, _, _, iv, rfl, ?_⟩
      · simp [results, Try.results88, go_sem, v0, v1, v2, v3]
      · have h1 := ((((HL.out.setB (a := (9, 0)) (eD9 _) rfl (m := 0) (by omega) (.slice ra 120 rcap) (fun _ _ => rfl)).setB (a := (9, 0)) (eD9 _) (updI_self _ _ _) (m := 1) (by omega) (.slice fa js.length fcap) (fun _ _ => rfl)).setB (a := (9, 0)) (eD9 _) (updI_self _ _ _) (m := 2) (by omega) (.slice ca 120 ccap) (fun _ _ => rfl)).setB (a := (9, 0)) (eD9 _) (updI_self _ _ _) (m := 3) (by omega) (.slice va als.length vcap) (fun _ _ => rfl))
        simp only [updI_updI] at h1
        exact ⟨h1.be, (h1.fm.sub (fun a ha => ha.1)).same (fun a ha => updI_ne _ _ ha.2)⟩

end Go.Proofs.Ytlkibehieekceaa

namespace Go.Proofs.Ytlkibehieekceaa
open Go.RowKit Go.Deep
variable {w0 w w' : World} {js : List J4} {als : List (List A2)} {k : Nat}

/-! ### impl.contenders -/
/-- The names while the contenders are made: so many jobs, so many servers. -/
def cD (kj ks : Nat) (a : Nm) : Prop := a = (5, 0) ∨ (a.1 = 7 ∧ a.2 < kj) ∨ (a.1 = 8 ∧ a.2 < ks)
def cP (va : Value) (gj gs : Nat → Nat) (av : Nat → Value) : SP := ⟨0, .slice none 0 0, .slice none 0 0, .slice none 0 0, .slice none 0 0, va, fun _ => .slice none 0 0, gj, gs, av, 0⟩
def cS (ss : List A2) : ST5 := ⟨fun _ => 0, st0 ss, fun _ => -1, fun _ => -1, fun _ => -1, fun _ _ => -1⟩
/-- The patterns as they lie in memory. -/
def avOf (w : World) (aa : Option Addr) (k : Nat) : Value := match aa with
  | some a => (w.cell? ⟨a.block, a.off + k, none⟩).getD (.slice none 0 0)
  | none => .slice none 0 0
theorem av_at {aa : Option Addr} (h : RowSS w aa als) {k : Nat} (hk : k < als.length) : ∃ b off ad cap, aa = some ⟨b, off, none⟩ ∧ b < w.heap.size ∧ w.cell? ⟨b, off + k, none⟩ = some (avOf w aa k) ∧ avOf w aa k = .slice ad (als.getD k []).length cap ∧ Row2 w ad (als.getD k []) := by
  obtain ⟨b, off, ad, cap, rfl, h2, h3, _, h5⟩ := h k hk
  have e : avOf w (some ⟨b, off, none⟩) k = .slice ad (als.getD k []).length cap := by
    show (w.cell? ⟨b, off + k, none⟩).getD (.slice none 0 0) = _
    rw [h3]
    rfl
  exact ⟨b, off, ad, cap, rfl, h2, by rw [e]; exact h3, e, h5⟩
variable {ss : List A2} {va : Value} {gj gs : Nat → Nat} {av : Nat → Value} {n u kj ks : Nat}
theorem cD5 (kj ks : Nat) : cD kj ks (5, 0) := .inl rfl
theorem con_I {n : Nat} {a : Nm} {kj ks : Nat} {gj' gs' : Nat → Nat} (ha : cD kj ks a) (h5 : a ≠ (5, 0)) (h7 : a.1 = 7 → gj a.2 = gj' a.2) (h8 : a.1 = 8 → gs a.2 = gs' a.2) {n' : Nat} {va' : Value} : fI js ss als (cP va gj gs av) 0 n (cS ss) a = fI js ss als (cP va' gj' gs' av) 0 n' (cS ss) a := by
  obtain ⟨x, y⟩ := a
  rcases ha with e | ⟨e, _⟩ | ⟨e, _⟩
  · exact absurd e h5
  · simp only at e
    subst e
    show jobI (gj y) _ _ _ _ _ _ = jobI (gj' y) _ _ _ _ _ _
    rw [show gj y = gj' y from h7 rfl]
  · simp only at e
    subst e
    show srvI (gs y) _ _ _ _ _ _ = srvI (gs' y) _ _ _ _ _ _
    rw [show gs y = gs' y from h8 rfl]
    rfl
/-- One job's block more. -/
theorem RS.conJ {u : World} {tk rel dl ex : Int} (h : RS w0 w (cD k 0) (fI js ss als (cP va gj gs av) 0 k (cS ss))) (hb : Below w.heap.size w u) (e0 : tk = (jb js k).1) (e1 : rel = (jrel js k : Nat)) (e2 : dl = (jdl js k : Nat)) (e3 : ex = (jex js k : Nat)) :
    RS w0 (u.alloc (.cells #[.int .i64 tk, .int .i64 rel, .int .i64 dl, .int .i64 ex, .int .i64 (k : Int), .int .i64 0] 143)) (cD (k + 1) 0) (fI js ss als (cP va (fun i => if i = k then u.heap.size else gj i) gs av) 0 k (cS ss)) := by
  subst e0 e1 e2 e3
  have hbe := h.be.trans (hb.mono h.be.size)
  refine ⟨hbe.trans ((below_box _ _).mono hbe.size), ?_⟩
  have h1 := ((h.fm.below hb).add (a := (7, k)) (i := jobI u.heap.size (jb js k).1 (jrel js k) (jdl js k) (jex js k) k 0) (by rintro (e | ⟨_, e⟩ | ⟨e, _⟩) <;> simp at e) (below_box u (.cells #[.int .i64 (jb js k).1, .int .i64 (jrel js k : Nat), .int .i64 (jdl js k : Nat), .int .i64 (jex js k : Nat), .int .i64 (k : Int), .int .i64 0] 143)) (own_box u _ 6 _ _ rfl (fun c hc => by
    match c, hc with
    | 0, _ | 1, _ | 2, _ | 3, _ | 4, _ | 5, _ => rfl)) hbe.size).sub (D' := cD (k + 1) 0) (by
    rintro ⟨a, b⟩ (e | ⟨h1, h2⟩ | ⟨_, h2⟩)
    · exact .inr (.inl e)
    · by_cases e : b = k
      · exact .inl (by simp only at h1; rw [h1, e])
      · exact .inr (.inr (.inl ⟨h1, by simp only at h2 ⊢; omega⟩))
    · exact absurd h2 (Nat.not_lt_zero _))
  have h2 := h1.congr (a := (5, 0)) (G := ifcV (fun i => if i = k then u.heap.size else gj i) gs js.length) (cD5 _ _) (by
    rw [updI_ne _ _ (by simp)]
    intro l hl
    have hl' : l < k * 1 := hl
    show ifcV gj gs js.length l = _
    unfold ifcV
    dsimp only
    rw [if_neg (show ¬ l = k by omega)])
  refine h2.same fun a ha => ?_
  by_cases e5 : a = (5, 0)
  · subst e5
    rw [updI_self, updI_ne _ _ (by simp)]
    rfl
  · rw [updI_ne _ _ e5]
    by_cases e7 : a = (7, k)
    · subst e7
      rw [updI_self]
      show _ = jobI (if k = k then u.heap.size else gj k) _ _ _ _ _ _
      rw [if_pos rfl]
      rfl
    · rw [updI_ne _ _ e7]
      exact con_I ha e5 (fun e => by rw [if_neg (fun h => e7 (Prod.ext e h))]) (fun _ => rfl)
/-- One server's block more. -/
theorem RS.conS {u : World} {q p : Int} {v : Value} (h : RS w0 w (cD kj k) (fI js ss als (cP va gj gs av) 0 (js.length + k) (cS ss))) (hb : Below w.heap.size w u) (e0 : q = (aT ss k : Nat)) (e1 : p = (aX ss k : Nat)) (e2 : v = av k) :
    RS w0 (u.alloc (.cells #[.int .i64 q, .int .i64 p, .int .i64 (k : Int), v, .int .i64 0, .int .i64 0, .int .i64 0, .int .i64 q, .int .i64 0] 146)) (cD kj (k + 1)) (fI js ss als (cP va gj (fun i => if i = k then u.heap.size else gs i) av) 0 (js.length + k) (cS ss)) := by
  subst e0 e1 e2
  have hbe := h.be.trans (hb.mono h.be.size)
  refine ⟨hbe.trans ((below_box _ _).mono hbe.size), ?_⟩
  have h1 := ((h.fm.below hb).add (a := (8, k)) (i := srvI u.heap.size (aT ss k) (aX ss k) k (av k) 0 (st0 ss k)) (by rintro (e | ⟨e, _⟩ | ⟨_, e⟩) <;> simp at e) (below_box u (.cells #[.int .i64 (aT ss k : Nat), .int .i64 (aX ss k : Nat), .int .i64 (k : Int), av k, .int .i64 0, .int .i64 0, .int .i64 0, .int .i64 (aT ss k : Nat), .int .i64 0] 146)) (own_box u _ 9 _ _ rfl (fun c hc => by
    match c, hc with
    | 0, _ | 1, _ | 2, _ | 3, _ | 4, _ | 5, _ | 6, _ | 7, _ | 8, _ => rfl)) hbe.size).sub (D' := cD kj (k + 1)) (by
    rintro ⟨a, b⟩ (e | ⟨h1, h2⟩ | ⟨h1, h2⟩)
    · exact .inr (.inl e)
    · exact .inr (.inr (.inl ⟨h1, h2⟩))
    · by_cases e : b = k
      · exact .inl (by simp only at h1; rw [h1, e])
      · exact .inr (.inr (.inr ⟨h1, by simp only at h2 ⊢; omega⟩)))
  have h2 := h1.congr (a := (5, 0)) (G := ifcV gj (fun i => if i = k then u.heap.size else gs i) js.length) (cD5 _ _) (by
    rw [updI_ne _ _ (by simp)]
    intro l hl
    have hl' : l < (js.length + k) * 1 := hl
    show ifcV gj gs js.length l = _
    unfold ifcV
    dsimp only
    by_cases e : l < js.length
    · rw [if_pos e, if_pos e]
    · rw [if_neg e, if_neg e, if_neg (show ¬ l - js.length = k by omega)])
  refine h2.same fun a ha => ?_
  by_cases e5 : a = (5, 0)
  · subst e5
    rw [updI_self, updI_ne _ _ (by simp)]
    rfl
  · rw [updI_ne _ _ e5]
    by_cases e8 : a = (8, k)
    · subst e8
      rw [updI_self]
      show _ = srvI (if k = k then u.heap.size else gs k) _ _ _ _ _ _
      rw [if_pos rfl]
      rfl
    · rw [updI_ne _ _ e8]
      exact con_I ha e5 (fun _ => rfl) (fun e => by rw [if_neg (fun h => e8 (Prod.ext e h))])
/-- The list of contenders has grown. -/
theorem RS.conP {v' x : Value} (h : RS w0 w (cD kj ks) (fI js ss als (cP va gj gs av) 0 n (cS ss))) (hx : ifcV gj gs js.length n = x) (ho : w'.ownsRow w0.heap.size 113 1 v' (n + 1) (vF (ifcV gj gs js.length) (n * 1) ++ [x])) (hg : w.grownBy w' va.ownBlock) (hp : v'.ownBlock = va.ownBlock ∨ v'.ownBlock = some w.heap.size) :
    RS w0 w' (cD kj ks) (fI js ss als (cP v' gj gs av) 0 (n + 1) (cS ss)) := by
  have h1 := h.fm.push (a := (5, 0)) (G := ifcV gj gs js.length) (cD5 _ _) (v' := v') (by
    show w'.ownsRow w0.heap.size 113 1 v' (n + 1) (vF (ifcV gj gs js.length) (n * 1) ++ [ifcV gj gs js.length (n * 1 + 0)])
    rw [show n * 1 + 0 = n by omega, hx]
    exact ho) (fun l _ => rfl) hg hp
  refine ⟨h.be.grown hg h.be.size (fun l hl => (h.fm.lt (cD5 kj ks) l hl).1), h1.same fun a ha => ?_⟩
  by_cases e5 : a = (5, 0)
  · subst e5
    rw [updI_self]
    rfl
  · rw [updI_ne _ _ e5]
    exact con_I ha e5 (fun _ => rfl) (fun _ => rfl)
theorem ifInfo : (Try.prog.info? 113).map (fun i => (i.zero, i.size, i.bytes)) = some (some .nilIface, 1, 16) := by kernel_rfl
theorem one1i (t : TypeId) (a : Option Addr) : ∀ u ∈ [Value.iface t (.pointer a)], u.oneCell' = true := by
  intro u hu
  simp at hu
  subst hu
  rfl

set_option maxRecDepth 100000 in
set_option maxHeartbeats 4000000 in
/-- impl.contenders. -/
theorem contenders_any (ja sa aa : Option Addr) (jcap scap acap : Nat) (js : List J4) (ss : List A2) (als : List (List A2)) (w : World) (hj : RowJ w ja js) (hs : Row2 w sa ss) (hA : RowSS w aa als) (h60 : js.length ≤ 60) (hs2 : ss.length ≤ 2) (hl : als.length = ss.length)
    (hJ : ∀ k, k < js.length → (jb js k).2.1 = (jrel js k : Nat) ∧ (jb js k).2.2.1 = (jdl js k : Nat) ∧ (jb js k).2.2.2 = (jex js k : Nat)) (hS : ∀ k, k < ss.length → (ab ss k).1 = (aT ss k : Nat) ∧ (ab ss k).2 = (aX ss k : Nat)) :
    Calls Try.prog 89 #[.slice ja js.length jcap, .slice sa ss.length scap, .slice aa als.length acap] w fun e w' =>
      ∃ (va : Value) (gj gs : Nat → Nat), e = .returned va ∧ RS w w' (cD js.length ss.length) (fI js ss als (cP va gj gs (avOf w aa)) 0 (js.length + ss.length) (cS ss)) := by
  obtain ⟨iC, hi, hz, hsz, hby⟩ := info_parts ifInfo
  have HIC := Lib.hid (And.intro hi (And.intro hz (And.intro hsz hby)))
  clear hi hz hsz hby
  have HJ := Lib.hid (And.intro hj hJ)
  have HS := Lib.hid (And.intro hs hS)
  have HA := Lib.hid hA
  have HLEN := Lib.hid hl
  have L0 := Lib.hid (show RS w w (cD 0 0) (fI js ss als (cP (.slice none 0 0) (fun _ => 0) (fun _ => 0) (avOf w aa)) 0 0 (cS ss)) from ⟨Below.refl _ _, ⟨fun a ha => by
    rcases ha with rfl | ⟨_, h⟩ | ⟨_, h⟩
    · exact OwnF.nil _ _ _ _ _
    · exact absurd h (Nat.not_lt_zero _)
    · exact absurd h (Nat.not_lt_zero _), fun a b hne ha hb => by
    rcases ha with rfl | ⟨_, h⟩ | ⟨_, h⟩
    · rcases hb with rfl | ⟨_, h⟩ | ⟨_, h⟩
      · exact absurd rfl hne
      · exact absurd h (Nat.not_lt_zero _)
      · exact absurd h (Nat.not_lt_zero _)
    · exact absurd h (Nat.not_lt_zero _)
    · exact absurd h (Nat.not_lt_zero _)⟩⟩)
  clear hj hs hA hl hJ hS
  go_enter Try.func89, Try.ntmps89
  go_wp2
  go_loopg [7, 14] js.length (fun m s z wr => ∃ (k : Nat) (va : Value) (gj : Nat → Nat), m + k = js.length ∧ va = s ∧ z = .int .i64 k ∧ RS w wr (cD k 0) (fI js ss als (cP va gj (fun _ => 0) (avOf w aa)) 0 k (cS ss)))
  case atStart => exact ⟨0, _, _, by omega, rfl, rfl, L0.out⟩
  case round =>
    obtain ⟨k, va, gj, hk, rfl, rfl, hL⟩ := hrel
    have HK := Lib.hid hk
    have HL := Lib.hid hL
    have hkk : k ≤ js.length := by omega
    obtain ⟨ca, ccap, rfl⟩ := own_shape (show OwnF 113 1 wr w.heap.size va k (ifcV gj (fun _ => 0) js.length) from hL.fm.ow (5, 0) (cD5 _ _))
    clear hk hL L0
    by_cases hlt : k < js.length
    · have hk0 : (0 : Int) ≤ k := by omega
      have hk1 : (k : Int) < js.length := by omega
      obtain ⟨bj, oj, ej, -, x0, x1, x2, x3⟩ := (HJ.out.1.below HL.out.be) k hlt
      subst ej
      obtain ⟨⟨T, R, DL, X⟩, hq⟩ : ∃ q, q = jb js k := ⟨_, rfl⟩
      rw [← hq] at x0 x1 x2 x3
      simp only at x0 x1 x2 x3
      have HQ := Lib.hid hq
      clear hq
      have L1 := Lib.hid (HL.out.conJ (u := wr.alloc (.cells #[.int .i64 T, .int .i64 R, .int .i64 DL, .int .i64 X] 47)) (tk := T) (rel := R) (dl := DL) (ex := X) (below_box _ _) (by rw [← HQ.out]) (by rw [← (HJ.out.2 k hlt).1, ← HQ.out]) (by rw [← (HJ.out.2 k hlt).2.1, ← HQ.out]) (by rw [← (HJ.out.2 k hlt).2.2, ← HQ.out]))
      rw [World.size_alloc] at L1
      go_wp2_with (at_builtin; refine wpList_append_at _ rfl (.tmp 19) (.tmp 25) 110 rfl w.heap.size 113 iC _ 1 16 Try.underlying110 HIC.out.1 HIC.out.2.1 HIC.out.2.2.1 HIC.out.2.2.2 rfl (by decide) _ k (vF (ifcV (fun i => if i = k then wr.heap.size + 1 else gj i) (fun _ => 0) js.length) (k * 1)) rfl ((L1.out.below (below_box _ _)).fm.ow (5, 0) (cD5 _ _)) ⟨wr.heap.size + 1 + 1, 0, none⟩ 1 1 [.iface 141 (.pointer (some ⟨wr.heap.size + 1, 0, none⟩))] rfl rfl (by simpa using news1v ((wr.alloc (.cells #[.int .i64 T, .int .i64 R, .int .i64 DL, .int .i64 X] 47)).alloc (.cells #[.int .i64 T, .int .i64 R, .int .i64 DL, .int .i64 X, .int .i64 (k : Int), .int .i64 0] 143)) (.iface 141 (.pointer (some ⟨wr.heap.size + 1, 0, none⟩))) 113) (one1i _ _) (by unfold maxLen; omega) (by omega) (L1.out.below (below_box _ _)).be.size (by decide) ?_; intro v2 u2 ho2 hg2 hp2 hn2)
      have L2 := Lib.hid ((L1.out.below (below_box _ _)).conP (by unfold ifcV; dsimp only; rw [if_pos hlt, if_pos rfl]) ho2 hg2 hp2)
      clear ho2 hg2 hp2 hn2
      go_roundg (gk - 1)
      case measure => have := HK.out; omega
      case rel => exact ⟨k + 1, _, _, by have := HK.out; omega, rfl, by go_num, L2.out⟩
    · obtain rfl : k = js.length := by omega
      clear HK HIC
      obtain ⟨iC, hi, hz, hsz, hby⟩ := info_parts ifInfo
      have HIC := Lib.hid (And.intro hi (And.intro hz (And.intro hsz hby)))
      clear hi hz hsz hby
      obtain ⟨w2, hw2⟩ : ∃ w2, w2 = wr := ⟨_, rfl⟩
      subst hw2
      have L3 := Lib.hid (show RS w w2 (cD js.length 0) (fI js ss als (cP (.slice ca js.length ccap) gj (fun _ => 0) (avOf w aa)) 0 (js.length + 0) (cS ss)) from HL.out)
      clear HL
      go_wp2
      go_loopg [7, 30] ss.length (fun m s z wr => ∃ (k : Nat) (va : Value) (gs : Nat → Nat), m + k = ss.length ∧ va = s ∧ z = .int .i64 k ∧ RS w wr (cD js.length k) (fI js ss als (cP va gj gs (avOf w aa)) 0 (js.length + k) (cS ss)))
      case atStart => exact ⟨0, _, _, by omega, rfl, rfl, L3.out⟩
      case round =>
        obtain ⟨k, va, gs, hk, rfl, rfl, hL⟩ := hrel
        have HK := Lib.hid hk
        have HL := Lib.hid hL
        have hkk : k ≤ ss.length := by omega
        obtain ⟨ca, ccap, rfl⟩ := own_shape (show OwnF 113 1 wr w.heap.size va (js.length + k) (ifcV gj gs js.length) from hL.fm.ow (5, 0) (cD5 _ _))
        clear hk hL L3
        by_cases hlt : k < ss.length
        · have hk0 : (0 : Int) ≤ k := by omega
          have hk1 : (k : Int) < ss.length := by omega
          have hk2 : (k : Int) < als.length := by have := HLEN.out; omega
          obtain ⟨bs, os, es, hbs, s0, s1⟩ := (HS.out.1.below HL.out.be) k hlt
          subst es
          obtain ⟨ba, oa, ad, dcap, ea, hba, d0, dv, -⟩ := av_at HA.out (k := k) (by have := HLEN.out; omega)
          subst ea
          have d1 := (HL.out.be.cell (p := ⟨ba, oa + k, none⟩) hba).trans d0
          obtain ⟨AV, hAV⟩ : ∃ AV, AV = avOf w (some ⟨ba, oa, none⟩) k := ⟨_, rfl⟩
          rw [← hAV] at d1 dv
          have HAV := Lib.hid hAV
          obtain ⟨⟨Q, P⟩, hq⟩ : ∃ q, q = ab ss k := ⟨_, rfl⟩
          rw [← hq] at s0 s1
          simp only at s0 s1
          have HQ := Lib.hid hq
          obtain ⟨N, hN⟩ : ∃ N, N = (als.getD k []).length := ⟨_, rfl⟩
          rw [← hN] at dv
          subst dv
          have hbw : ba < wr.heap.size := Nat.lt_of_lt_of_le hba HL.out.be.size
          clear hAV hq hN d0
          have hbe : ba ≠ wr.heap.size := by omega
          obtain ⟨w1, hw1⟩ : ∃ w1, w1 = wr.alloc (.cells #[.int .i64 Q, .int .i64 P] 137) := ⟨_, rfl⟩
          have b1 : Below wr.heap.size wr w1 := by rw [hw1]; exact below_box _ _
          have c0 : w1.cell? ⟨wr.heap.size, 0, none⟩ = some (.int .i64 Q) := by rw [hw1]; go_simp
          have c1 : w1.cell? ⟨wr.heap.size, 1, none⟩ = some (.int .i64 P) := by rw [hw1]; go_simp
          have d2 := (b1.cell (p := ⟨ba, oa + k, none⟩) hbw).trans d1
          have hsb : wr.heap.size < w1.heap.size := by rw [hw1]; simp
          have hba1 : ba < w1.heap.size := by omega
          have L1 := Lib.hid (show RS w (w1.alloc (.cells #[.int .i64 Q, .int .i64 P, .int .i64 (k : Int), .slice ad N dcap, .int .i64 0, .int .i64 0, .int .i64 0, .int .i64 Q, .int .i64 0] 146)) (cD js.length (k + 1)) (fI js ss als (cP (.slice ca (js.length + k) ccap) gj (fun i => if i = k then w1.heap.size else gs i) (avOf w (some ⟨ba, oa, none⟩))) 0 (js.length + k) (cS ss)) from
            HL.out.conS (u := w1) (q := Q) (p := P) b1 (by rw [← (HS.out.2 k hlt).1, ← HQ.out]) (by rw [← (HS.out.2 k hlt).2, ← HQ.out]) HAV.out)
          have HLT := Lib.hid (show ∀ g, (Value.slice ca (js.length + k) ccap).ownBlock = some g → w.heap.size ≤ g ∧ g < wr.heap.size from HL.out.fm.lt (a := (5, 0)) (cD5 _ _))
          go_wp2
          rw [← hw1]
          clear hw1 HL d1 s0 s1
          refine wp_region_held_drew (S := fun w' => w'.cell? ⟨wr.heap.size, 0, none⟩ = some (.int .i64 Q) ∧ w'.cell? ⟨wr.heap.size, 1, none⟩ = some (.int .i64 P) ∧ w'.cell? ⟨ba, oa + k, none⟩ = some (.slice ad N dcap)) (by kernel_rfl) ?_ (fun hHeld => ?_)
          · (try dsimp only)
            exact ⟨c0, c1, d2⟩
          refine wpAnyH_take (i := 0) (v := ?_) (toArr_get _ 0 _ rfl) (by kernel_rfl) (by kernel_rfl) (by kernel_rfl) (fun _ _ _ h => h) (Or.inl ⟨by rfl, ?_⟩) (by assumption) ?_
          rotate_left
          · (intro w hSw; (try dsimp only at hSw); go_simp; (try with_reducible rfl))
          (try simp only [Act.put, List.setIfInBounds_toArray, List.set_cons_zero, List.set_cons_succ])
          refine wpAnyH_take (i := 1) (v := ?_) (toArr_get _ 1 _ rfl) (by kernel_rfl) (by kernel_rfl) (by kernel_rfl) (fun _ _ _ h => h) (Or.inl ⟨by rfl, ?_⟩) (by assumption) ?_
          rotate_left
          · (intro w hSw; (try dsimp only at hSw); go_simp; (try with_reducible rfl))
          (try simp only [Act.put, List.setIfInBounds_toArray, List.set_cons_zero, List.set_cons_succ])
          refine wpAnyH_take (i := 2) (v := ?_) (toArr_get _ 2 _ rfl) (by kernel_rfl) (by kernel_rfl) (by kernel_rfl) (fun _ _ _ h => h) (Or.inl ⟨by rfl, ?_⟩) (by assumption) ?_
          rotate_left
          · (intro w hSw; (try dsimp only at hSw); go_simp; (try with_reducible rfl))
          (try simp only [Act.put, List.setIfInBounds_toArray, List.set_cons_zero, List.set_cons_succ])
          refine wpAnyH_take (i := 3) (v := ?_) (toArr_get _ 3 _ rfl) (by kernel_rfl) (by kernel_rfl) (by kernel_rfl) (fun _ _ _ h => h) (Or.inl ⟨by rfl, ?_⟩) (by assumption) ?_
          rotate_left
          · (intro w hSw; (try dsimp only at hSw); go_simp; (try with_reducible rfl))
          (try simp only [Act.put, List.setIfInBounds_toArray, List.set_cons_zero, List.set_cons_succ])
          refine wpAnyH_take (i := 4) (v := ?_) (toArr_get _ 4 _ rfl) (by kernel_rfl) (by kernel_rfl) (by kernel_rfl) (fun _ _ _ h => h) (Or.inl ⟨by rfl, ?_⟩) (by assumption) ?_
          rotate_left
          · (intro w hSw; (try dsimp only at hSw); go_simp; (try with_reducible rfl))
          (try simp only [Act.put, List.setIfInBounds_toArray, List.set_cons_zero, List.set_cons_succ])
          refine wpAnyH_take (i := 5) (v := ?_) (toArr_get _ 5 _ rfl) (by kernel_rfl) (by kernel_rfl) (by kernel_rfl) (fun _ _ _ h => h) (Or.inl ⟨by rfl, ?_⟩) (by assumption) ?_
          rotate_left
          · (intro w hSw; (try dsimp only at hSw); go_simp; (try with_reducible rfl))
          (try simp only [Act.put, List.setIfInBounds_toArray, List.set_cons_zero, List.set_cons_succ])
          refine wpAnyH_take (i := 6) (v := ?_) (toArr_get _ 6 _ rfl) (by kernel_rfl) (by kernel_rfl) (by kernel_rfl) (fun _ _ _ h => h) (Or.inl ⟨by rfl, ?_⟩) (by assumption) ?_
          rotate_left
          · (intro w hSw; (try dsimp only at hSw); go_simp; (try with_reducible rfl))
          (try simp only [Act.put, List.setIfInBounds_toArray, List.set_cons_zero, List.set_cons_succ])
          refine wpAnyH_take (i := 7) (v := ?_) (toArr_get _ 7 _ rfl) (by kernel_rfl) (by kernel_rfl) (by kernel_rfl) (fun _ _ _ h => h) (Or.inl ⟨by rfl, ?_⟩) (by assumption) ?_
          rotate_left
          · (intro w hSw; (try dsimp only at hSw); go_simp; (try with_reducible rfl))
          (try simp only [Act.put, List.setIfInBounds_toArray, List.set_cons_zero, List.set_cons_succ])
          refine wpAnyH_take (i := 8) (v := ?_) (toArr_get _ 8 _ rfl) (by kernel_rfl) (by kernel_rfl) (by kernel_rfl) (fun _ _ _ h => h) (Or.inl ⟨by rfl, ?_⟩) (by assumption) ?_
          rotate_left
          · (intro w hSw; (try dsimp only at hSw); go_simp; (try with_reducible rfl))
          (try simp only [Act.put, List.setIfInBounds_toArray, List.set_cons_zero, List.set_cons_succ])
          refine wpAnyH_take (i := 9) (v := ?_) (toArr_get _ 9 _ rfl) (by kernel_rfl) (by kernel_rfl) (by kernel_rfl) (fun _ _ _ h => h) (Or.inl ⟨by rfl, ?_⟩) (by assumption) ?_
          rotate_left
          · (intro w hSw; (try dsimp only at hSw); go_simp; (try with_reducible rfl))
          (try simp only [Act.put, List.setIfInBounds_toArray, List.set_cons_zero, List.set_cons_succ])
          refine wpAnyH_ready (rs := [10]) (by kernel_rfl) (by simp) ?_
          refine AllReadyH.cons (toArr_get _ 10 _ rfl) (fun K hK => ?_) ?_
          · go_simp
            generalize hW10 : World.drew (World.alloc _ _) = w10
            have L10 := Lib.hid (show RS w w10 _ _ by rw [← hW10]; exact L1.out.drew)
            have B10 : Below w1.heap.size w1 w10 := by rw [← hW10]; exact (below_box _ _).drew
            clear hW10
            refine hK.out _ _ ?_ (fun hHeld2 => ?_)
            · (try dsimp only)
              exact ⟨(B10.cell (p := ⟨wr.heap.size, 0, none⟩) hsb).trans c0, (B10.cell (p := ⟨wr.heap.size, 1, none⟩) hsb).trans c1, (B10.cell (p := ⟨ba, oa + k, none⟩) hba1).trans d2⟩
            clear hK K hHeld
            have hHeld := hHeld2
            clear hHeld2
            (try simp only [Act.put, List.setIfInBounds_toArray, List.set_cons_zero, List.set_cons_succ])
            refine wpAnyH_take (i := 11) (v := ?_) (toArr_get _ 11 _ rfl) (by kernel_rfl) (by kernel_rfl) (by kernel_rfl) (fun _ _ _ h => h) (Or.inl ⟨by rfl, ?_⟩) (by assumption) ?_
            rotate_left
            · (intro w hSw; (try dsimp only at hSw); go_simp; (try with_reducible rfl))
            (try simp only [Act.put, List.setIfInBounds_toArray, List.set_cons_zero, List.set_cons_succ])
            refine wpAnyH_ready (rs := [12]) (by kernel_rfl) (by simp) ?_
            refine AllReadyH.cons (toArr_get _ 12 _ rfl) (fun K hK => ?_) ?_
            · go_simp
              generalize hW12 : World.alloc _ _ = w12
              have L12 := Lib.hid (show RS w w12 _ _ by rw [← hW12]; exact L10.out.below (below_box _ _))
              have B12 : Below w1.heap.size w1 w12 := by rw [← hW12]; exact B10.trans ((below_box _ _).mono B10.size)
              have n12 : ∀ (j : Nat) (x : Value), [.iface 144 (.pointer (some ⟨w1.heap.size, 0, none⟩))][j]? = some x → w12.cell? ((⟨w10.heap.size, 0, none⟩ : Addr).add j) = some x := by rw [← hW12]; exact news1v _ _ _
              clear hW12
              refine hK.out _ _ ?_ (fun hHeld2 => ?_)
              · (try dsimp only)
                exact ⟨(B12.cell (p := ⟨wr.heap.size, 0, none⟩) hsb).trans c0, (B12.cell (p := ⟨wr.heap.size, 1, none⟩) hsb).trans c1, (B12.cell (p := ⟨ba, oa + k, none⟩) hba1).trans d2⟩
              clear hK K hHeld
              have hHeld := hHeld2
              clear hHeld2
              (try simp only [Act.put, List.setIfInBounds_toArray, List.set_cons_zero, List.set_cons_succ])
              refine wpAnyH_ready (rs := [13]) (by kernel_rfl) (by simp) ?_
              refine AllReadyH.cons (toArr_get _ 13 _ rfl) (fun K hK => ?_) ?_
              · rw [if_pos (by rfl)]
                refine wp_append_at _ (.tmp 35) (.tmp 47) 110 rfl w.heap.size 113 iC _ 1 16 Try.underlying110 HIC.out.1 HIC.out.2.1 HIC.out.2.2.1 HIC.out.2.2.2 rfl (by decide) _ (js.length + k) (vF (ifcV gj (fun i => if i = k then w1.heap.size else gs i) js.length) ((js.length + k) * 1)) rfl (L12.out.fm.ow (5, 0) (cD5 _ _)) ⟨w10.heap.size, 0, none⟩ 1 1 [.iface 144 (.pointer (some ⟨w1.heap.size, 0, none⟩))] rfl rfl n12 (one1i _ _) (by unfold maxLen; omega) (by omega) L12.out.be.size (by decide) ?_
                intro v13 w13 ho13 hg13 hp13 hn13
                have L13 := Lib.hid (L12.out.conP (by unfold ifcV; dsimp only; rw [if_neg (by omega), if_pos (by omega)]) ho13 hg13 hp13)
                have G13 := Lib.hid (show w12.grownBy w13 (Value.slice ca (js.length + k) ccap).ownBlock from hg13)
                clear ho13 hg13 hp13 hn13
                refine hK.out _ _ ?_ (fun hHeld2 => ?_)
                · (try dsimp only)
                  exact ⟨G13.out.cell hHeld.1 (fun e => by have := HLT.out _ e.symm; simp only at this; omega), G13.out.cell hHeld.2.1 (fun e => by have := HLT.out _ e.symm; simp only at this; omega), G13.out.cell hHeld.2.2 (fun e => by have := HLT.out _ e.symm; simp only at this; omega)⟩
                clear hK K hHeld
                have hHeld := hHeld2
                clear hHeld2
                (try simp only [Act.put, List.setIfInBounds_toArray, List.set_cons_zero, List.set_cons_succ])
                refine wpAnyH_take (i := 14) (v := ?_) (toArr_get _ 14 _ rfl) (by kernel_rfl) (by kernel_rfl) (by kernel_rfl) (fun _ _ _ h => h) (Or.inl ⟨by rfl, ?_⟩) (by assumption) ?_
                rotate_left
                · (intro w hSw; (try dsimp only at hSw); go_simp; (try with_reducible rfl))
                (try simp only [Act.put, List.setIfInBounds_toArray, List.set_cons_zero, List.set_cons_succ])
                refine wpAnyH_done (by kernel_rfl) ?_ _
                go_wp2
                go_roundg (gk - 1)
                case measure => have := HK.out; omega
                case rel => exact ⟨k + 1, _, _, by have := HK.out; omega, rfl, by go_num, L13.out⟩
              exact AllReadyH.nil
            exact AllReadyH.nil
          exact AllReadyH.nil
        · obtain rfl : k = ss.length := by omega
          go_wp2
          go_ret
          exact ⟨_, gj, gs, rfl, HL.out⟩

end Go.Proofs.Ytlkibehieekceaa

namespace Go.Proofs.Ytlkibehieekceaa
open Go.RowKit Go.Deep

theorem mPendJ (n : Nat) (a : Option Addr) (w : World) : (method (n + 1) 141 (.pointer a) "loop.example/deadlinescheduler/impl.pending").run Try.prog w = .ok (171, .pointer a) w := by kernel_rfl
theorem mPendS (n : Nat) (a : Option Addr) (w : World) : (method (n + 1) 144 (.pointer a) "loop.example/deadlinescheduler/impl.pending").run Try.prog w = .ok (175, .pointer a) w := by kernel_rfl
theorem mDueJ (n : Nat) (a : Option Addr) (w : World) : (method (n + 1) 141 (.pointer a) "loop.example/deadlinescheduler/impl.due").run Try.prog w = .ok (170, .pointer a) w := by kernel_rfl
theorem mDueS (n : Nat) (a : Option Addr) (w : World) : (method (n + 1) 144 (.pointer a) "loop.example/deadlinescheduler/impl.due").run Try.prog w = .ok (174, .pointer a) w := by kernel_rfl

/-- The one that is chosen, as a value. -/
def topV (gj gs : Nat → Nat) (nj : Nat) : Option Nat → Value
  | none => .nilIface
  | some c => ifcV gj gs nj c

set_option maxRecDepth 100000 in
set_option maxHeartbeats 4000000 in
/-- impl.mostUrgent. -/
theorem mostUrgent_any {w0 w : World} {D : Nm → Prop} {js : List J4} {ss : List A2} {als : List (List A2)} {vr vf vc vs : Value} {gR gZ nv acap : Nat} {ca : Option Addr} {iv av : Nat → Value} {gj gs : Nat → Nat} {S : ST5}
    (h : RS w0 w D (fI js ss als ⟨gR, vr, vf, vc, vs, .slice ca (js.length + ss.length) acap, iv, gj, gs, av, gZ⟩ nv (js.length + ss.length) S)) (h5 : D (5, 0)) (h7 : ∀ i, i < js.length → D (7, i)) (h8 : ∀ k, k < ss.length → D (8, k)) (h60 : js.length ≤ 60) (hs2 : ss.length ≤ 2) :
    Calls Try.prog 90 #[.slice ca (js.length + ss.length) acap] w fun e w' =>
      e = .returned (topV gj gs js.length (Cb.top js.length S.lf (jdl js) S.sv (js.length + ss.length))) ∧ Below w.heap.size w w' := by
  have HH := Lib.hid h
  have mp1 := mPendJ
  have mp2 := mPendS
  have md1 := mDueJ
  have md2 := mDueS
  clear h
  go_enter Try.func90, Try.ntmps90
  go_wp2
  go_loopg [3, 8] (js.length + ss.length) (fun m s z wr => ∃ c : Nat, m + c = js.length + ss.length ∧ topV gj gs js.length (Cb.top js.length S.lf (jdl js) S.sv c) = s ∧ z = .int .i64 c ∧ Below w.heap.size w wr)
  case atStart => exact ⟨0, by omega, rfl, rfl, Below.refl _ _⟩
  case round =>
    obtain ⟨c, hk, rfl, rfl, B⟩ := hrel
    have HK := Lib.hid hk
    have HB := Lib.hid B
    have HR := Lib.hid (HH.out.below B)
    have hkk : c ≤ js.length + ss.length := by omega
    clear hk B
    by_cases hlt : c < js.length + ss.length
    · obtain ⟨ga, ac', eg⟩ := (show OwnF 113 1 wr w0.heap.size (.slice ca (js.length + ss.length) acap) (js.length + ss.length) (ifcV gj gs js.length) from HR.out.fm.ow _ h5).has (by omega)
      simp only [Value.slice.injEq] at eg
      obtain ⟨rfl, -, rfl⟩ := eg
      have x0 : wr.cell? ⟨ga, c, none⟩ = some (ifcV gj gs js.length c) := by
        have h1 := HR.out.fm.ow _ h5
        exact (OwnF.at (show OwnF 113 1 wr w0.heap.size (.slice (some ⟨ga, 0, none⟩) (js.length + ss.length) acap) (js.length + ss.length) (ifcV gj gs js.length) from h1)).2.2.2.2 c (by omega)
      have hc0 : (0 : Int) ≤ c := by omega
      have hc1 : (c : Int) < (js.length : Int) + ss.length := by omega
      clear HH
      by_cases hcj : c < js.length
      · obtain ⟨k, rfl⟩ : ∃ k, k = c := ⟨_, rfl⟩
        have hk : k < js.length := hcj
        have hE : ifcV gj gs js.length k = .iface 141 (.pointer (some ⟨gj k, 0, none⟩)) := if_pos hcj
        rw [hE] at x0
        have HE := Lib.hid hE
        clear hE hcj
        go_wp2_with fail
        refine (pendingJ_any HR.out (a := (7, k)) (h7 k hk) rfl).mono ?_
        rintro e w1 ⟨rfl, rfl⟩
        by_cases hp : 0 < S.lf k
        · rw [decide_eq_true hp]
          have HP := Lib.hid (show 0 < Cb.pe js.length S.lf S.sv k by rw [Cb.pe_j hk]; exact hp)
          clear hp
          cases hT : Cb.top js.length S.lf (jdl js) S.sv k with
          | none =>
            have HN := Lib.hid (show Cb.top js.length S.lf (jdl js) S.sv (k + 1) = some k by rw [Cb.top_succ, hT]; simp only; rw [if_pos HP.out])
            clear hT
            simp only [topV]
            go_wp2
            go_roundg (gk - 1)
            case measure => have := HK.out; omega
            case rel => exact ⟨k + 1, by have := HK.out; omega, by rw [HN.out]; exact HE.out, by go_num, HB.out⟩
          | some b =>
            have HBL := Lib.hid ((best_some hT).1)
            have HTS := Lib.hid (Cb.top_succ js.length S.lf (jdl js) S.sv k)
            rw [hT] at HTS
            simp only [topV]
            obtain ⟨X, hX⟩ : ∃ X, X = jdl js k := ⟨_, rfl⟩
            have HDX := Lib.hid (show X = Cb.du js.length (jdl js) S.sv k by rw [Cb.du_j hk]; exact hX)
            clear hT
            by_cases hb : b < js.length
            · have HV := Lib.hid (show ifcV gj gs js.length b = .iface 141 (.pointer (some ⟨gj b, 0, none⟩)) from if_pos hb)
              obtain ⟨Y, hY⟩ : ∃ Y, Y = jdl js b := ⟨_, rfl⟩
              have HDY := Lib.hid (show Y = Cb.du js.length (jdl js) S.sv b by rw [Cb.du_j hb]; exact hY)
              rw [HV.out]
              go_wp2_with fail
              refine (dueJ_any HR.out (a := (7, k)) (h7 k hk) rfl).mono ?_
              rintro e w2 ⟨rfl, rfl⟩
              go_wp2_with fail
              refine (dueJ_any HR.out (a := (7, b)) (h7 b hb) rfl).mono ?_
              rintro e w3 ⟨rfl, rfl⟩
              try rw [← hX]
              try rw [← hY]
              clear hX hY
              by_cases hlt : X < Y
              · have hlt2 : decide (X < Y) = true := decide_eq_true hlt
                have hlt3 : (X : Int) < Y := by omega
                have HN := Lib.hid (show Cb.top js.length S.lf (jdl js) S.sv (k + 1) = some k by rw [HTS.out]; (try simp only); rw [if_pos ⟨HP.out, by rw [← HDX.out, ← HDY.out]; exact hlt⟩])
                go_wp2
                go_roundg (gk - 1)
                case measure => have := HK.out; omega
                case rel => exact ⟨k + 1, by have := HK.out; omega, by rw [HN.out]; exact HE.out, by go_num, HB.out⟩
              · have hlt2 : decide (X < Y) = false := decide_eq_false hlt
                have hlt3 : ¬ (X : Int) < Y := by omega
                have HN := Lib.hid (show Cb.top js.length S.lf (jdl js) S.sv (k + 1) = some b by rw [HTS.out]; (try simp only); rw [if_neg (fun h => hlt (by rw [HDX.out, HDY.out]; exact h.2))])
                go_wp2
                go_roundg (gk - 1)
                case measure => have := HK.out; omega
                case rel => exact ⟨k + 1, by have := HK.out; omega, by rw [HN.out]; exact HV.out, by go_num, HB.out⟩
            · obtain ⟨m, rfl⟩ : ∃ m, b = js.length + m := ⟨b - js.length, by omega⟩
              have hm : m < ss.length := by have := HBL.out; omega
              have HV := Lib.hid (show ifcV gj gs js.length (js.length + m) = .iface 144 (.pointer (some ⟨gs m, 0, none⟩)) by unfold ifcV; rw [if_neg (by omega), Nat.add_sub_cancel_left])
              obtain ⟨Y, hY⟩ : ∃ Y, Y = (S.sv m).dl := ⟨_, rfl⟩
              have HDY := Lib.hid (show Y = Cb.du js.length (jdl js) S.sv (js.length + m) by rw [Cb.du_s]; exact hY)
              rw [HV.out]
              go_wp2_with fail
              refine (dueJ_any HR.out (a := (7, k)) (h7 k hk) rfl).mono ?_
              rintro e w2 ⟨rfl, rfl⟩
              go_wp2_with fail
              refine (dueS_any HR.out (a := (8, m)) (h8 m hm) rfl).mono ?_
              rintro e w3 ⟨rfl, rfl⟩
              try rw [← hX]
              try rw [← hY]
              clear hX hY
              by_cases hlt : X < Y
              · have hlt2 : decide (X < Y) = true := decide_eq_true hlt
                have hlt3 : (X : Int) < Y := by omega
                have HN := Lib.hid (show Cb.top js.length S.lf (jdl js) S.sv (k + 1) = some k by rw [HTS.out]; (try simp only); rw [if_pos ⟨HP.out, by rw [← HDX.out, ← HDY.out]; exact hlt⟩])
                go_wp2
                go_roundg (gk - 1)
                case measure => have := HK.out; omega
                case rel => exact ⟨k + 1, by have := HK.out; omega, by rw [HN.out]; exact HE.out, by go_num, HB.out⟩
              · have hlt2 : decide (X < Y) = false := decide_eq_false hlt
                have hlt3 : ¬ (X : Int) < Y := by omega
                have HN := Lib.hid (show Cb.top js.length S.lf (jdl js) S.sv (k + 1) = some (js.length + m) by rw [HTS.out]; (try simp only); rw [if_neg (fun h => hlt (by rw [HDX.out, HDY.out]; exact h.2))])
                go_wp2
                go_roundg (gk - 1)
                case measure => have := HK.out; omega
                case rel => exact ⟨k + 1, by have := HK.out; omega, by rw [HN.out]; exact HV.out, by go_num, HB.out⟩
        · rw [decide_eq_false hp]
          have HN := Lib.hid (show Cb.top js.length S.lf (jdl js) S.sv (k + 1) = Cb.top js.length S.lf (jdl js) S.sv k by
            rw [Cb.top_succ]
            have hz : ¬ 0 < Cb.pe js.length S.lf S.sv k := by rw [Cb.pe_j hk]; exact hp
            cases Cb.top js.length S.lf (jdl js) S.sv k with
            | none => simp only; rw [if_neg hz]
            | some b => simp only; rw [if_neg (fun h => hz h.1)])
          clear hp
          obtain ⟨TV, hTV⟩ : ∃ TV, TV = topV gj gs js.length (Cb.top js.length S.lf (jdl js) S.sv k) := ⟨_, rfl⟩
          rw [← hTV]
          have HTV := Lib.hid hTV
          clear hTV
          go_wp2
          go_roundg (gk - 1)
          case measure => have := HK.out; omega
          case rel => exact ⟨k + 1, by have := HK.out; omega, by rw [HN.out]; exact HTV.out.symm, by go_num, HB.out⟩
      · obtain ⟨k, rfl⟩ : ∃ k, c = js.length + k := ⟨c - js.length, by omega⟩
        have hk : k < ss.length := by omega
        have hE : ifcV gj gs js.length (js.length + k) = .iface 144 (.pointer (some ⟨gs k, 0, none⟩)) := by unfold ifcV; rw [if_neg (by omega), Nat.add_sub_cancel_left]
        rw [hE] at x0
        have HE := Lib.hid hE
        clear hE hcj
        go_wp2_with fail
        refine (pendingS_any HR.out (a := (8, k)) (h8 k hk) rfl).mono ?_
        rintro e w1 ⟨rfl, b1⟩
        have HR1 := Lib.hid (HR.out.below b1)
        have HB1 := Lib.hid (HB.out.trans (b1.mono HB.out.size))
        clear b1
        by_cases hp : (S.sv k).head < (S.sv k).come
        · rw [decide_eq_true hp]
          have HP := Lib.hid (show 0 < Cb.pe js.length S.lf S.sv (js.length + k) by rw [Cb.pe_s, if_pos hp]; omega)
          clear hp
          cases hT : Cb.top js.length S.lf (jdl js) S.sv (js.length + k) with
          | none =>
            have HN := Lib.hid (show Cb.top js.length S.lf (jdl js) S.sv ((js.length + k) + 1) = some (js.length + k) by rw [Cb.top_succ, hT]; simp only; rw [if_pos HP.out])
            clear hT
            simp only [topV]
            go_wp2
            go_roundg (gk - 1)
            case measure => have := HK.out; omega
            case rel => exact ⟨(js.length + k) + 1, by have := HK.out; omega, by rw [HN.out]; exact HE.out, by go_num, HB1.out⟩
          | some b =>
            have HBL := Lib.hid ((best_some hT).1)
            have HTS := Lib.hid (Cb.top_succ js.length S.lf (jdl js) S.sv (js.length + k))
            rw [hT] at HTS
            simp only [topV]
            obtain ⟨X, hX⟩ : ∃ X, X = (S.sv k).dl := ⟨_, rfl⟩
            have HDX := Lib.hid (show X = Cb.du js.length (jdl js) S.sv (js.length + k) by rw [Cb.du_s]; exact hX)
            clear hT
            by_cases hb : b < js.length
            · have HV := Lib.hid (show ifcV gj gs js.length b = .iface 141 (.pointer (some ⟨gj b, 0, none⟩)) from if_pos hb)
              obtain ⟨Y, hY⟩ : ∃ Y, Y = jdl js b := ⟨_, rfl⟩
              have HDY := Lib.hid (show Y = Cb.du js.length (jdl js) S.sv b by rw [Cb.du_j hb]; exact hY)
              rw [HV.out]
              go_wp2_with fail
              refine (dueS_any HR1.out (a := (8, k)) (h8 k hk) rfl).mono ?_
              rintro e w2 ⟨rfl, rfl⟩
              go_wp2_with fail
              refine (dueJ_any HR1.out (a := (7, b)) (h7 b hb) rfl).mono ?_
              rintro e w3 ⟨rfl, rfl⟩
              try rw [← hX]
              try rw [← hY]
              clear hX hY
              by_cases hlt : X < Y
              · have hlt2 : decide (X < Y) = true := decide_eq_true hlt
                have hlt3 : (X : Int) < Y := by omega
                have HN := Lib.hid (show Cb.top js.length S.lf (jdl js) S.sv ((js.length + k) + 1) = some (js.length + k) by rw [HTS.out]; (try simp only); rw [if_pos ⟨HP.out, by rw [← HDX.out, ← HDY.out]; exact hlt⟩])
                go_wp2
                go_roundg (gk - 1)
                case measure => have := HK.out; omega
                case rel => exact ⟨(js.length + k) + 1, by have := HK.out; omega, by rw [HN.out]; exact HE.out, by go_num, HB1.out⟩
              · have hlt2 : decide (X < Y) = false := decide_eq_false hlt
                have hlt3 : ¬ (X : Int) < Y := by omega
                have HN := Lib.hid (show Cb.top js.length S.lf (jdl js) S.sv ((js.length + k) + 1) = some b by rw [HTS.out]; (try simp only); rw [if_neg (fun h => hlt (by rw [HDX.out, HDY.out]; exact h.2))])
                go_wp2
                go_roundg (gk - 1)
                case measure => have := HK.out; omega
                case rel => exact ⟨(js.length + k) + 1, by have := HK.out; omega, by rw [HN.out]; exact HV.out, by go_num, HB1.out⟩
            · obtain ⟨m, rfl⟩ : ∃ m, b = js.length + m := ⟨b - js.length, by omega⟩
              have hm : m < ss.length := by have := HBL.out; omega
              have HV := Lib.hid (show ifcV gj gs js.length (js.length + m) = .iface 144 (.pointer (some ⟨gs m, 0, none⟩)) by unfold ifcV; rw [if_neg (by omega), Nat.add_sub_cancel_left])
              obtain ⟨Y, hY⟩ : ∃ Y, Y = (S.sv m).dl := ⟨_, rfl⟩
              have HDY := Lib.hid (show Y = Cb.du js.length (jdl js) S.sv (js.length + m) by rw [Cb.du_s]; exact hY)
              rw [HV.out]
              go_wp2_with fail
              refine (dueS_any HR1.out (a := (8, k)) (h8 k hk) rfl).mono ?_
              rintro e w2 ⟨rfl, rfl⟩
              go_wp2_with fail
              refine (dueS_any HR1.out (a := (8, m)) (h8 m hm) rfl).mono ?_
              rintro e w3 ⟨rfl, rfl⟩
              try rw [← hX]
              try rw [← hY]
              clear hX hY
              by_cases hlt : X < Y
              · have hlt2 : decide (X < Y) = true := decide_eq_true hlt
                have hlt3 : (X : Int) < Y := by omega
                have HN := Lib.hid (show Cb.top js.length S.lf (jdl js) S.sv ((js.length + k) + 1) = some (js.length + k) by rw [HTS.out]; (try simp only); rw [if_pos ⟨HP.out, by rw [← HDX.out, ← HDY.out]; exact hlt⟩])
                go_wp2
                go_roundg (gk - 1)
                case measure => have := HK.out; omega
                case rel => exact ⟨(js.length + k) + 1, by have := HK.out; omega, by rw [HN.out]; exact HE.out, by go_num, HB1.out⟩
              · have hlt2 : decide (X < Y) = false := decide_eq_false hlt
                have hlt3 : ¬ (X : Int) < Y := by omega
                have HN := Lib.hid (show Cb.top js.length S.lf (jdl js) S.sv ((js.length + k) + 1) = some (js.length + m) by rw [HTS.out]; (try simp only); rw [if_neg (fun h => hlt (by rw [HDX.out, HDY.out]; exact h.2))])
                go_wp2
                go_roundg (gk - 1)
                case measure => have := HK.out; omega
                case rel => exact ⟨(js.length + k) + 1, by have := HK.out; omega, by rw [HN.out]; exact HV.out, by go_num, HB1.out⟩
        · rw [decide_eq_false hp]
          have HN := Lib.hid (show Cb.top js.length S.lf (jdl js) S.sv ((js.length + k) + 1) = Cb.top js.length S.lf (jdl js) S.sv (js.length + k) by
            rw [Cb.top_succ]
            have hz : ¬ 0 < Cb.pe js.length S.lf S.sv (js.length + k) := by rw [Cb.pe_s, if_neg hp]; omega
            cases Cb.top js.length S.lf (jdl js) S.sv (js.length + k) with
            | none => simp only; rw [if_neg hz]
            | some b => simp only; rw [if_neg (fun h => hz h.1)])
          clear hp
          obtain ⟨TV, hTV⟩ : ∃ TV, TV = topV gj gs js.length (Cb.top js.length S.lf (jdl js) S.sv (js.length + k)) := ⟨_, rfl⟩
          rw [← hTV]
          have HTV := Lib.hid hTV
          clear hTV
          go_wp2
          go_roundg (gk - 1)
          case measure => have := HK.out; omega
          case rel => exact ⟨(js.length + k) + 1, by have := HK.out; omega, by rw [HN.out]; exact HTV.out.symm, by go_num, HB1.out⟩
    · obtain rfl : c = js.length + ss.length := by omega
      obtain ⟨TV, hTV⟩ : ∃ TV, TV = topV gj gs js.length (Cb.top js.length S.lf (jdl js) S.sv (js.length + ss.length)) := ⟨_, rfl⟩
      rw [← hTV]
      have HTV := Lib.hid hTV
      clear hTV
      go_wp2
      go_ret
      exact ⟨by rw [HTV.out]; rfl, HB.out⟩

end Go.Proofs.Ytlkibehieekceaa

namespace Go.Proofs.Ytlkibehieekceaa
open Go.RowKit Go.Deep

/-- The same item, as far as its cells go. -/
structure ItEq (i j : It) : Prop where
  v : i.v = j.v
  t : i.t = j.t
  size : i.size = j.size
  n : i.n = j.n
  F : ∀ k, k < i.n * i.size → i.F k = j.F k
theorem ItEq.same (i : It) : ItEq i i := ⟨rfl, rfl, rfl, rfl, fun _ _ => rfl⟩
theorem ItEq.of {i j : It} (h : i = j) : ItEq i j := by subst h; exact ItEq.same _
theorem ItEq.ints {v : Value} {n : Nat} {f g : Nat → Int} (h : ∀ k, k < n → f k = g k) : ItEq (itI v n f) (itI v n g) :=
  ⟨rfl, rfl, rfl, rfl, fun k hk => by have : k < n * 1 := hk; show Value.int .i64 (f k) = .int .i64 (g k); rw [h k (by omega)]⟩
variable {w w0 w1 w2 : World} {base : Nat} {D D1 D2 : Nm → Prop} {I I' I1 I2 : Nm → It}
theorem Fam.sameE (h : Fam w base D I) (e : ∀ a, D a → ItEq (I a) (I' a)) : Fam w base D I' := by
  refine ⟨fun a ha => ?_, fun a b hn ha hb => ?_⟩
  · have h1 := e a ha
    have h2 := (h.ow a ha).congr h1.F
    rw [h1.t, h1.size, h1.v, h1.n] at h2
    exact h2
  · rw [← (e a ha).v, ← (e b hb).v]
    exact h.ap a b hn ha hb
/-- Two families, the second in newer blocks. -/
theorem Fam.union (h1 : Fam w1 base D1 I1) (hb : Below w1.heap.size w1 w2) (h2 : Fam w2 w1.heap.size D2 I2) (hs : base ≤ w1.heap.size) (e1 : ∀ a, D1 a → ItEq (I1 a) (I a)) (e2 : ∀ a, D2 a → ItEq (I2 a) (I a)) : Fam w2 base (fun a => D1 a ∨ D2 a) I := by
  have f1 := (h1.below hb).sameE e1
  have f2 := h2.sameE e2
  have ap : ∀ a b, D1 a → D2 b → Apart (I a).v (I b).v := fun a b ha hb' l h l' => by
    have g1 := ((h1.sameE e1).lt ha l h).2
    have g2 := (f2.lt hb' l l').1
    omega
  refine ⟨fun a ha => ?_, fun a b hn ha hb' => ?_⟩
  · rcases ha with ha | ha
    · exact f1.ow a ha
    · exact (f2.ow a ha).mono hs
  · rcases ha with ha | ha
    · rcases hb' with hb' | hb'
      · exact f1.ap a b hn ha hb'
      · exact ap a b ha hb'
    · rcases hb' with hb' | hb'
      · exact (ap b a hb' ha).symm
      · exact f2.ap a b hn ha hb'
/-- All names of the simulation. -/
def fD (nj ns : Nat) (a : Nm) : Prop := ((a.1 ≤ 5 ∨ a.1 = 9) ∧ a.2 = 0) ∨ (a.1 = 6 ∧ a.2 < ns) ∨ (a.1 = 7 ∧ a.2 < nj) ∨ (a.1 = 8 ∧ a.2 < ns)
theorem fD0 (nj ns : Nat) {n : Nat} (h : n ≤ 5 ∨ n = 9) : fD nj ns (n, 0) := .inl ⟨h, rfl⟩
theorem fD6 {nj ns k : Nat} (h : k < ns) : fD nj ns (6, k) := .inr (.inl ⟨rfl, h⟩)
theorem fD7 {nj ns k : Nat} (h : k < nj) : fD nj ns (7, k) := .inr (.inr (.inl ⟨rfl, h⟩))
theorem fD8 {nj ns k : Nat} (h : k < ns) : fD nj ns (8, k) := .inr (.inr (.inr ⟨rfl, h⟩))
theorem fD_all {nj ns : Nat} {Q : Nm → Prop} (q0 : Q (0, 0)) (q1 : Q (1, 0)) (q2 : Q (2, 0)) (q3 : Q (3, 0)) (q4 : Q (4, 0)) (q5 : Q (5, 0)) (q9 : Q (9, 0)) (q6 : ∀ k, k < ns → Q (6, k)) (q7 : ∀ k, k < nj → Q (7, k)) (q8 : ∀ k, k < ns → Q (8, k)) : ∀ a, fD nj ns a → Q a := by
  rintro ⟨x, y⟩ (⟨h1, h2⟩ | ⟨h1, h2⟩ | ⟨h1, h2⟩ | ⟨h1, h2⟩)
  · simp only at h1 h2
    subst h2
    have h3 : x = 0 ∨ x = 1 ∨ x = 2 ∨ x = 3 ∨ x = 4 ∨ x = 5 ∨ x = 9 := by omega
    rcases h3 with rfl | rfl | rfl | rfl | rfl | rfl | rfl
    · exact q0
    · exact q1
    · exact q2
    · exact q3
    · exact q4
    · exact q5
    · exact q9
  · simp only at h1 h2
    subst h1
    exact q6 y h2
  · simp only at h1 h2
    subst h1
    exact q7 y h2
  · simp only at h1 h2
    subst h1
    exact q8 y h2

variable {C : Cb} {js : List J4} {ss : List A2} {als : List (List A2)} {P : SP} {nv nc t c k j nj ns : Nat}
/-- The state at the start of tick t. -/
def sA (C : Cb) (t : Nat) : ST5 := ⟨C.lfA t, (C.st t).sv, fun u => if u < t then optI (C.run u) else -1, C.fin t, fun u => if u < t then optI (C.K u) else -1, C.dn t⟩
/-- The state while contenders arrive: c of them have. -/
def sM (C : Cb) (nj t c : Nat) : ST5 := ⟨fun i => if i < c then C.lfB t i else C.lfA t i, fun k => if nj + k < c then C.A t k else (C.st t).sv k, fun u => if u < t then optI (C.run u) else -1, C.fin t, fun u => if u < t then optI (C.K u) else -1, C.dn t⟩
/-- The state behind the arrivals. -/
def sB (C : Cb) (t : Nat) : ST5 := ⟨C.lfB t, C.A t, fun u => if u < t then optI (C.run u) else -1, C.fin t, fun u => if u < t then optI (C.K u) else -1, C.dn t⟩
theorem RS.sameE (h : RS w0 w D I) (e : ∀ a, D a → ItEq (I a) (I' a)) : RS w0 w D I' := ⟨h.be, h.fm.sameE e⟩
theorem job_eq {g : Nat} {tk : Int} {rel dl ex i l l' : Nat} (h : l = l') : ItEq (jobI g tk rel dl ex i l) (jobI g tk rel dl ex i l') := .of (by rw [h])
theorem srv_eq {g q p i : Nat} {v : Value} {al : List A2} {s s' : SV} (h : s = s') : ItEq (srvI g q p i v (dnOf al s) s) (srvI g q p i v (dnOf al s') s') := .of (by rw [h])
theorem RS.m0 (h : RS w0 w (fD js.length ss.length) (fI js ss als P nv nc (sA C t))) : RS w0 w (fD js.length ss.length) (fI js ss als P nv nc (sM C js.length t 0)) :=
  h.sameE (fD_all (.same _) (.same _) (.same _) (.same _) (.same _) (.same _) (.same _) (fun _ _ => .same _) (fun i _ => job_eq (by show C.lfA t i = if i < 0 then C.lfB t i else C.lfA t i; rw [if_neg (by omega)])) (fun k _ => srv_eq (by show (C.st t).sv k = if js.length + k < 0 then C.A t k else (C.st t).sv k; rw [if_neg (by omega)])))
theorem RS.mB (h : RS w0 w (fD js.length ss.length) (fI js ss als P nv nc (sM C js.length t (js.length + ss.length)))) : RS w0 w (fD js.length ss.length) (fI js ss als P nv nc (sB C t)) :=
  h.sameE (fD_all (.same _) (.same _) (.same _) (.same _) (.same _) (.same _) (.same _) (fun _ _ => .same _) (fun i hi => job_eq (by show (if i < js.length + ss.length then C.lfB t i else C.lfA t i) = C.lfB t i; rw [if_pos (by omega)])) (fun k hk => srv_eq (by show (if js.length + k < js.length + ss.length then C.A t k else (C.st t).sv k) = C.A t k; rw [if_pos (by omega)])))
/-- A job has arrived. -/
theorem RS.mJ (hc : c < js.length) (h : RS w0 w (fD js.length ss.length) (updI (fI js ss als P nv nc (sM C js.length t c)) (7, c) (jobI (P.gj c) (jb js c).1 (jrel js c) (jdl js c) (jex js c) c (if jrel js c = t then jex js c else (sM C js.length t c).lf c)))) (hP : C.P = edfP js) :
    RS w0 w (fD js.length ss.length) (fI js ss als P nv nc (sM C js.length t (c + 1))) := by
  refine h.sameE (fD_all (.same _) (.same _) (.same _) (.same _) (.same _) (.same _) (.same _) (fun k _ => ?_) (fun i hi => ?_) (fun k hk => ?_))
  · rw [updI_ne _ _ (by simp)]
    exact .same _
  · by_cases e : i = c
    · subst e
      rw [updI_self]
      refine job_eq ?_
      show (if jrel js i = t then jex js i else if i < i then C.lfB t i else C.lfA t i) = if i < i + 1 then C.lfB t i else C.lfA t i
      rw [if_neg (Nat.lt_irrefl i), if_pos (Nat.lt_succ_self i), ← Cb.lf_arr, hP]
      rfl
    · rw [updI_ne _ _ (by simp [e])]
      refine job_eq ?_
      show (if i < c then C.lfB t i else C.lfA t i) = if i < c + 1 then C.lfB t i else C.lfA t i
      by_cases e2 : i < c
      · rw [if_pos e2, if_pos (by omega)]
      · rw [if_neg e2, if_neg (by omega)]
  · rw [updI_ne _ _ (by simp)]
    refine srv_eq ?_
    show (if js.length + k < c then C.A t k else (C.st t).sv k) = if js.length + k < c + 1 then C.A t k else (C.st t).sv k
    rw [if_neg (by omega), if_neg (by omega)]
/-- A server's requests have arrived. -/
theorem RS.mS (hc : c < ss.length) (h : RS w0 w (fD js.length ss.length) (updI (fI js ss als P nv nc (sM C js.length t (js.length + c))) (8, c) (srvI (P.gs c) (aT ss c) (aX ss c) c (P.av c) (dnOf (als.getD c []) (C.A t c)) (C.A t c)))) :
    RS w0 w (fD js.length ss.length) (fI js ss als P nv nc (sM C js.length t (js.length + c + 1))) := by
  refine h.sameE (fD_all (.same _) (.same _) (.same _) (.same _) (.same _) (.same _) (.same _) (fun k _ => ?_) (fun i hi => ?_) (fun k hk => ?_))
  · rw [updI_ne _ _ (by simp)]
    exact .same _
  · rw [updI_ne _ _ (by simp)]
    refine job_eq ?_
    show (if i < js.length + c then C.lfB t i else C.lfA t i) = if i < js.length + c + 1 then C.lfB t i else C.lfA t i
    rw [if_pos (by omega), if_pos (by omega)]
  · by_cases e : k = c
    · subst e
      rw [updI_self]
      refine srv_eq ?_
      show C.A t k = if js.length + k < js.length + k + 1 then C.A t k else (C.st t).sv k
      rw [if_pos (by omega)]
    · rw [updI_ne _ _ (by simp [e])]
      refine srv_eq ?_
      show (if js.length + k < js.length + c then C.A t k else (C.st t).sv k) = if js.length + k < js.length + c + 1 then C.A t k else (C.st t).sv k
      by_cases e2 : k < c
      · rw [if_pos (by omega), if_pos (by omega)]
      · rw [if_neg (by omega), if_neg (by omega)]
theorem snoc_run {f : Nat → Option Nat} {u t : Nat} {x : Int} (hx : x = optI (f t)) : (if u = t then x else if u < t then optI (f u) else -1) = if u < t + 1 then optI (f u) else -1 := by
  by_cases e : u = t
  · subst e
    rw [if_pos rfl, if_pos (by omega), hx]
  · rw [if_neg e]
    by_cases e2 : u < t
    · rw [if_pos e2, if_pos (by omega)]
    · rw [if_neg e2, if_neg (by omega)]
theorem idle_run' {f : Nat → Option Nat} {u t : Nat} (hx : f t = none) : (if u < t then optI (f u) else -1) = if u < t + 1 then optI (f u) else -1 := by
  by_cases e : u = t
  · subst e
    rw [if_neg (Nat.lt_irrefl _), if_pos (by omega), hx]
    rfl
  · by_cases e2 : u < t
    · rw [if_pos e2, if_pos (by omega)]
    · rw [if_neg e2, if_neg (by omega)]
/-- Nothing has run. -/
theorem RS.tN (hK : C.K t = none) (hJ : C.J t = none) (h : RS w0 w (fD js.length ss.length) (fI js ss als P nv nc (sB C t))) : RS w0 w (fD js.length ss.length) (fI js ss als P nv nc (sA C (t + 1))) := by
  have hr : C.run t = none := by unfold Cb.run; rw [hK]; exact hJ
  refine h.sameE (fD_all (.same _) (.ints fun u _ => idle_run' hr) (.ints fun u _ => ?_) (.ints fun u _ => idle_run' hK) (.same _) (.same _) (.same _) (fun k _ => .ints fun u _ => ?_) (fun i hi => job_eq ?_) (fun k hk => srv_eq ?_))
  · show C.fin t u = C.fin (t + 1) u
    rw [Cb.fin_succ, hr]
    simp
  · show C.dn t k u = C.dn (t + 1) k u
    rw [Cb.dn_succ, hK]
    simp
  · show C.lfB t i = C.lfA (t + 1) i
    rw [Cb.lf_succ, hr]
    simp
  · show C.A t k = (C.st (t + 1)).sv k
    rw [C.sv_succ, hK]
    simp
/-- A job has run. -/
theorem RS.tJ (hK : C.K t = none) (hJ : C.J t = some j) (h0 : 0 < C.jl t j) (hrel : C.P.rel j ≤ t) (h : RS w0 w (fD js.length ss.length) (updI (updI (updI (fI js ss als P nv nc (sB C t)) (1, 0) (itI P.vr 120 (fun u => if u = t then (j : Int) else (sB C t).rn u))) (7, j) (jobI (P.gj j) (jb js j).1 (jrel js j) (jdl js j) (jex js j) j (C.lfB t j - 1))) (2, 0) (itI P.vf js.length (fun u => if u = j ∧ C.lfB t j = 1 then (t : Int) + 1 else (sB C t).fn u)))) :
    RS w0 w (fD js.length ss.length) (fI js ss als P nv nc (sA C (t + 1))) := by
  have hr : C.run t = some j := by unfold Cb.run; rw [hK]; exact hJ
  have hlf : C.lfB t j = C.jl t j := if_pos hrel
  refine h.sameE (fD_all ?_ ?_ ?_ ?_ ?_ ?_ ?_ (fun k _ => ?_) (fun i hi => ?_) (fun k hk => ?_))
  · exact .same _
  · rw [updI_ne _ _ (by decide), updI_ne _ _ (by simp), updI_self]
    exact .ints fun u _ => snoc_run (f := C.run) (by rw [hr]; rfl)
  · rw [updI_self]
    refine .ints fun u _ => ?_
    show (if u = j ∧ C.lfB t j = 1 then (t : Int) + 1 else C.fin t u) = C.fin (t + 1) u
    rw [Cb.fin_succ, hr, hlf]
    by_cases e : u = j
    · subst e
      rw [C.jl_succ, if_pos hr]
      by_cases e1 : C.jl t u = 1
      · rw [if_pos ⟨rfl, e1⟩, if_pos ⟨rfl, by omega⟩]
      · rw [if_neg (fun h => e1 h.2), if_neg (fun h => e1 (by have := h.2; omega))]
    · rw [if_neg (fun h => e h.1), if_neg (fun h => e (Option.some.inj h.1).symm)]
  · exact .ints fun u _ => idle_run' hK
  · exact .same _
  · exact .same _
  · exact .same _
  · rw [updI_ne _ _ (by simp), updI_ne _ _ (by simp), updI_ne _ _ (by simp)]
    refine .ints fun u _ => ?_
    show C.dn t k u = C.dn (t + 1) k u
    rw [Cb.dn_succ, hK]
    simp
  · rw [updI_ne _ _ (by simp)]
    by_cases e : i = j
    · subst e
      rw [updI_self]
      refine job_eq ?_
      show C.lfB t i - 1 = C.lfA (t + 1) i
      rw [Cb.lf_succ, if_pos hr]
    · rw [updI_ne _ _ (by simp [e]), updI_ne _ _ (by simp)]
      refine job_eq ?_
      show C.lfB t i = C.lfA (t + 1) i
      rw [Cb.lf_succ, if_neg (fun h => e (Option.some.inj (hr.symm.trans h)).symm)]
  · rw [updI_ne _ _ (by simp), updI_ne _ _ (by simp), updI_ne _ _ (by simp)]
    refine srv_eq ?_
    show C.A t k = (C.st (t + 1)).sv k
    rw [C.sv_succ, hK]
    simp
/-- A server has run. -/
theorem RS.tS {kk N : Nat} {vi : Value} (hK : C.K t = some kk) (hvi : vi = P.iv kk) (hN : N = (als.getD kk []).length) (hq : C.q kk = aT ss kk) (hp : C.p kk = aX ss kk) (hal : C.al kk = als.getD kk []) (hr1 : 1 ≤ (C.A t kk).rest)
    (h : RS w0 w (fD js.length ss.length) (srvDone (fI js ss als P nv nc (sB C t)) (8, kk) (P.gs kk) (aT ss kk) (aX ss kk) kk (P.av kk) P.vc vi N (als.getD kk []) (C.A t kk) (sB C t).ch ((sB C t).d kk) t)) :
    RS w0 w (fD js.length ss.length) (fI js ss als P nv nc (sA C (t + 1))) := by
  subst hvi hN
  have hr : C.run t = none := by unfold Cb.run; rw [hK]
  have hsv : ∀ k, (C.st (t + 1)).sv k = if k = kk then (C.A t kk).serve (aT ss kk) (aX ss kk) (als.getD kk []) else C.A t k := fun k => by
    rw [C.sv_succ, hK]
    by_cases e : k = kk
    · subst e
      rw [if_pos rfl, if_pos rfl, hq, hp, hal]
    · rw [if_neg (fun h => e (Option.some.inj h).symm), if_neg e]
  unfold srvDone at h
  refine h.sameE (fD_all ?_ ?_ ?_ ?_ ?_ ?_ ?_ (fun k _ => ?_) (fun i hi => ?_) (fun k hk => ?_))
  · exact .same _
  · exact .ints fun u _ => idle_run' hr
  · refine .ints fun u _ => ?_
    show C.fin t u = C.fin (t + 1) u
    rw [Cb.fin_succ, hr]
    simp
  · rw [updI_ne _ _ (by simp), updI_ne _ _ (by simp), updI_self]
    exact .ints fun u _ => snoc_run (f := C.K) (by rw [hK]; rfl)
  · exact .same _
  · exact .same _
  · exact .same _
  · rw [updI_ne _ _ (by simp)]
    by_cases e : k = kk
    · subst e
      rw [updI_self]
      refine .ints fun u _ => ?_
      show (if u = (C.A t k).head ∧ (C.A t k).rest = 1 then (t : Int) + 1 else C.dn t k u) = C.dn (t + 1) k u
      rw [Cb.dn_succ, hsv, if_pos rfl, serve_hd hr1]
      by_cases e1 : u = (C.A t k).head ∧ (C.A t k).rest = 1
      · rw [if_pos e1, if_pos ⟨hK, e1.1.symm, by rw [if_pos e1.2, e1.1]; omega⟩]
      · rw [if_neg e1, if_neg]
        rintro ⟨_, h2, h3⟩
        refine e1 ⟨h2.symm, ?_⟩
        apply Classical.byContradiction
        intro hn
        rw [if_neg hn] at h3
        omega
    · rw [updI_ne _ _ (by simp [e]), updI_ne _ _ (by simp)]
      refine .ints fun u _ => ?_
      show C.dn t k u = C.dn (t + 1) k u
      rw [Cb.dn_succ, if_neg (fun h => e (Option.some.inj (hK.symm.trans h.1)).symm)]
  · rw [updI_ne _ _ (by simp), updI_ne _ _ (by simp), updI_ne _ _ (by simp)]
    refine job_eq ?_
    show C.lfB t i = C.lfA (t + 1) i
    rw [Cb.lf_succ, hr]
    simp
  · by_cases e : k = kk
    · subst e
      rw [updI_self]
      exact srv_eq (by show _ = (C.st (t + 1)).sv k; rw [hsv, if_pos rfl])
    · rw [updI_ne _ _ (by simp [e]), updI_ne _ _ (by simp), updI_ne _ _ (by simp)]
      exact srv_eq (by show C.A t k = (C.st (t + 1)).sv k; rw [hsv, if_neg e])

theorem dnOf_arr {q p now : Nat} {al : List A2} {s : SV} (ho : SvOk q al s) (ha : AlOk al) (hq : 1 ≤ q) : dnOf al (s.arr q p al now) = dnOf al s :=
  (arr_ind (I := fun s' => dnOf al s' = dnOf al s ∧ SvOk q al s') (fun _ hs hl _ => ⟨(dnOf_take hs.2.hc).trans hs.1, hs.2.take hq (ha _ hl) hl⟩) (Nat.le_refl _) ⟨rfl, ho⟩).1.1
/-- The family when all is made. -/
theorem RS.start {u3 u4 u6 : World} {gR' gZ' : Nat} {vr vf vc vs va : Value} {iv av : Nat → Value} {gj gs : Nat → Nat} (b3 : Below w.heap.size w u3) (hz : OwnF 66 4 u3 w.heap.size (.slice (some ⟨w.heap.size, 0, none⟩) 1 1) 1 (fun _ => .slice none 0 0)) (hl : als.length = ss.length)
    (h4 : RS u3 u4 (fun a => eD als.length a ∧ a ≠ (9, 0)) (fI js [] als (eP gR' gZ' vr vf vc vs iv) als.length 0 eS)) (h6 : RS (u4.alloc (.cells #[vr, vf, vc, vs] 66)) u6 (cD js.length ss.length) (fI js ss als (cP va gj gs av) 0 (js.length + ss.length) (cS ss))) (hC : C = cbOf js ss als) :
    RS w u6 (fD js.length ss.length) (fI js ss als ⟨u4.heap.size, vr, vf, vc, vs, va, iv, gj, gs, av, w.heap.size⟩ ss.length (js.length + ss.length) (sA C 0)) := by
  have s3 := b3.size
  have s4 := h4.be.size
  have s6 := h6.be.size
  have f9 : Fam u3 w.heap.size (fun a => a = (9, 0)) (fI js ss als ⟨u4.heap.size, vr, vf, vc, vs, va, iv, gj, gs, av, w.heap.size⟩ ss.length (js.length + ss.length) (sA C 0)) :=
    ⟨fun a ha => by subst ha; exact hz, fun a b hne ha hb => absurd (ha.trans hb.symm) hne⟩
  have f4 := f9.union h4.be h4.fm (I := updI (fI js ss als ⟨u4.heap.size, vr, vf, vc, vs, va, iv, gj, gs, av, w.heap.size⟩ ss.length (js.length + ss.length) (sA C 0)) (0, 0) (itB gR' 66 4 (outF vr vf vc vs))) s3 (fun a ha => by subst ha; exact .same _) (fun a ha => by
    obtain ⟨x, y⟩ := a
    obtain ⟨⟨h1, h2⟩ | ⟨h1, h2⟩, h9⟩ := ha
    · simp only at h1 h2
      subst h2
      have h3 : x = 0 ∨ x = 1 ∨ x = 2 ∨ x = 3 ∨ x = 4 ∨ x = 9 := by omega
      rcases h3 with rfl | rfl | rfl | rfl | rfl | rfl
      · exact .same _
      · exact .ints fun u _ => by show (-1 : Int) = if u < 0 then optI (C.run u) else -1; rw [if_neg (by omega)]
      · exact .ints fun u _ => by rw [hC]; rfl
      · exact .ints fun u _ => by show (-1 : Int) = if u < 0 then optI (C.K u) else -1; rw [if_neg (by omega)]
      · show ItEq (itV vs als.length iv) (itV vs ss.length iv)
        rw [hl]
        exact .same _
      · exact absurd rfl h9
    · simp only at h1 h2
      subst h1
      exact .ints fun u _ => by rw [hC]; rfl)
  have f5 := (f4.sub (D' := fun a => (a = (9, 0) ∨ eD als.length a) ∧ a ≠ (0, 0)) (fun a ha => by
    by_cases e : a = (9, 0)
    · exact .inl e
    · exact .inr ⟨ha.1.resolve_left e, e⟩)).add (a := (0, 0)) (i := itB u4.heap.size 66 4 (outF vr vf vc vs)) (fun h => h.2 rfl) (below_box u4 (.cells #[vr, vf, vc, vs] 66)) (own_box u4 _ 4 _ _ rfl (fun c hc => by
    match c, hc with
    | 0, _ | 1, _ | 2, _ | 3, _ => rfl)) (by omega)
  rw [updI_updI] at f5
  have f6 := f5.union h6.be h6.fm (I := fI js ss als ⟨u4.heap.size, vr, vf, vc, vs, va, iv, gj, gs, av, w.heap.size⟩ ss.length (js.length + ss.length) (sA C 0)) (by simp; omega) (fun a _ => by
    by_cases e : a = (0, 0)
    · subst e; rw [updI_self]; exact .same _
    · rw [updI_ne _ _ e]; exact .same _) (fun a ha => by
    obtain ⟨x, y⟩ := a
    rcases ha with h1 | ⟨h1, _⟩ | ⟨h1, _⟩
    · simp only [Prod.mk.injEq] at h1
      obtain ⟨rfl, rfl⟩ := h1
      exact .same _
    · simp only at h1
      subst h1
      exact job_eq (by show 0 = if C.P.rel y < 0 then C.jl 0 y else 0; rw [if_neg (by omega)])
    · simp only at h1
      subst h1
      refine srv_eq ?_
      rw [hC]
      rfl)
  refine ⟨(b3.trans (h4.be.mono s3)).trans (((below_box _ _).mono (by omega)).trans (h6.be.mono (by simp; omega))), f6.sub (fD_all ?_ ?_ ?_ ?_ ?_ ?_ ?_ (fun k hk => ?_) (fun k hk => ?_) (fun k hk => ?_))⟩
  · exact .inl (.inl rfl)
  · exact .inl (.inr ⟨.inr (.inl ⟨.inl (by decide), rfl⟩), by decide⟩)
  · exact .inl (.inr ⟨.inr (.inl ⟨.inl (by decide), rfl⟩), by decide⟩)
  · exact .inl (.inr ⟨.inr (.inl ⟨.inl (by decide), rfl⟩), by decide⟩)
  · exact .inl (.inr ⟨.inr (.inl ⟨.inl (by decide), rfl⟩), by decide⟩)
  · exact .inr (.inl rfl)
  · exact .inl (.inr ⟨.inl rfl, by decide⟩)
  · exact .inl (.inr ⟨.inr (.inr ⟨rfl, by show k < als.length; omega⟩), by simp⟩)
  · exact .inr (.inr (.inl ⟨rfl, hk⟩))
  · exact .inr (.inr (.inr ⟨rfl, hk⟩))
/-- What is returned. -/
theorem RS.got {vr vf vc vs va : Value} {iv av : Nat → Value} {gj gs : Nat → Nat} {gR gZ : Nat} (h : RS w0 w (fun a => fD js.length ss.length a ∧ a ≠ (9, 0)) (fI js ss als ⟨gR, vr, vf, vc, vs, va, iv, gj, gs, av, gZ⟩ ss.length nc (sA (cbOf js ss als) 120))) :
    Pool w w0.heap.size ([itI vr 120 (fun u => optI ((cbOf js ss als).run u)), itI vf js.length ((cbOf js ss als).fin 120), itI vc 120 (fun u => optI ((cbOf js ss als).K u)), itV vs ss.length iv] ++ insL als iv ((cbOf js ss als).dn 120) ss.length) := by
  have h1 := h.fm.sameE (I' := fun a => if a.1 = 1 then itI vr 120 (fun u => optI ((cbOf js ss als).run u)) else if a.1 = 3 then itI vc 120 (fun u => optI ((cbOf js ss als).K u)) else fI js ss als ⟨gR, vr, vf, vc, vs, va, iv, gj, gs, av, gZ⟩ ss.length nc (sA (cbOf js ss als) 120) a) (fun a _ => by
    obtain ⟨x, y⟩ := a
    by_cases e1 : x = 1
    · subst e1
      exact .ints fun u hu => by show (if u < 120 then optI ((cbOf js ss als).run u) else -1) = _; rw [if_pos hu]
    · by_cases e3 : x = 3
      · subst e3
        exact .ints fun u hu => by show (if u < 120 then optI ((cbOf js ss als).K u) else -1) = _; rw [if_pos hu]
      · simp only [if_neg e1, if_neg e3]
        exact .same _)
  refine h1.pool (fun j => if j < 4 then (j + 1, 0) else (6, j - 4)) (fun a b hne => ?_) (fun j i hj => ?_)
  · by_cases ha : a < 4
    · by_cases hb : b < 4
      · simp [ha, hb]; omega
      · simp [ha, hb]; omega
    · by_cases hb : b < 4
      · simp [ha, hb]; omega
      · simp [ha, hb]; omega
  · match j, hj with
    | 0, hj => exact ⟨⟨fD0 _ _ (by decide), by decide⟩, Option.some.inj hj⟩
    | 1, hj => exact ⟨⟨fD0 _ _ (by decide), by decide⟩, Option.some.inj hj⟩
    | 2, hj => exact ⟨⟨fD0 _ _ (by decide), by decide⟩, Option.some.inj hj⟩
    | 3, hj => exact ⟨⟨fD0 _ _ (by decide), by decide⟩, Option.some.inj hj⟩
    | j + 4, hj =>
      have hj' : (insL als iv ((cbOf js ss als).dn 120) ss.length)[j]? = some i := hj
      have hlt : j < ss.length := by
        have := (List.getElem?_eq_some_iff.1 hj').1
        simpa [insL] using this
      rw [insL_get hlt] at hj'
      simp only [if_neg (show ¬ j + 4 < 4 by omega), Nat.add_sub_cancel]
      exact ⟨⟨fD6 hlt, by simp⟩, Option.some.inj hj'⟩

end Go.Proofs.Ytlkibehieekceaa
