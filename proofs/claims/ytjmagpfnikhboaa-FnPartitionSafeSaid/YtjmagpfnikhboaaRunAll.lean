/- What a schedule reads as; contracts of the reference's functions of chapter 3. Conditions: those that each theorem names. -/
import Derived.Test.YtjmagpfnikhboaaMem
import Derived.Test.YtjmagpfnikhboaaBase
import Derived.Laws.MakeOwn
namespace Go.Proofs.Ytjmagpfnikhboaa
open Go.RowKit Go.Deep

/-- What a simulation of pattern P over js.length jobs returns: two slices of its own. -/
def Sched (base : Nat) (w' : World) (P : Pat) (n : Nat) (e : Ending) : Prop :=
  ∃ vr vf, e = .returned (.agg #[vr, vf]) ∧ OwnI w' base vr 120 (fun t => optI (P.run t)) ∧ OwnI w' base vf n (fun i => P.fin 120 i) ∧ Apart vf vr
/-- The jobs' integers and the pattern agree. -/
structure Fits (js : List J4) (P : Pat) : Prop where
  n : P.n = js.length
  rel : ∀ k, k < js.length → (jb js k).2.1 = P.rel k
  ex : ∀ k, k < js.length → (jb js k).2.2.2 = P.ex k
theorem sb_start (B : Nat) (w : World) (hB : B = w.heap.size) (fr ff fl : Nat → Int) :
    SB B w (((w.alloc (.cells #[.slice none 0 0, .slice none 0 0] 52)).alloc (.cells #[.slice none 0 0, .slice none 0 0] 52)).alloc (.cells #[] 3)) (.slice none 0 0) (.slice none 0 0) (.slice (some ⟨B + 2, 0, none⟩) 0 0) 0 0 0 fr ff fl := by
  subst hB
  have e : w.heap.size + 2 = ((w.alloc (.cells #[.slice none 0 0, .slice none 0 0] 52)).alloc (.cells #[.slice none 0 0, .slice none 0 0] 52)).heap.size := by simp
  have hne : ¬ w.heap.size = w.heap.size + 1 := by omega
  refine ⟨by simp [go_sem], by simp [go_sem], by simp [go_sem], by simp [go_sem], by simp [go_sem], by simp [go_sem], by simp [go_sem], by simp [go_sem], ?_, OwnI.nil _ _ _, OwnI.nil _ _ _, ?_, ?_, Apart.nil _, ?_, by simp⟩
  · rw [e]; exact OwnI.empty _ _
  · exact (Apart.nil _).symm
  · exact (Apart.nil _).symm
  · exact (((below_box _ _).alloc (by simp) _).alloc (by simp <;> omega) _)

end Go.Proofs.Ytjmagpfnikhboaa

namespace Go.Proofs.Ytjmagpfnikhboaa
open Go.RowKit Go.Deep

theorem leg_no {ts : List T3} {js : List J4} {k : Nat} (hk : k < js.length) (h : ¬ Leg1 ts js k) : legB ts js = false := by
  rw [Bool.eq_false_iff]
  intro e
  exact h ((legB_iff.1 e).2.2 k hk)
/-- The row 'next' behind k jobs. -/
abbrev NextRow (w : World) (b : Nat) (ts : List T3) (js : List J4) (k : Nat) : Prop := w.rowIs b 3 ts.length (fun i => .int .i64 (nx ts js k i : Nat))
theorem nx_le {ts : List T3} {js : List J4} {k : Nat} (hv : ts.all tv = true) (h : ∀ j, j < k → Leg1 ts js j) (i : Nat) (hi : i < ts.length) : nx ts js k i ≤ 131 := by
  induction k with
  | zero => simp [nx]
  | succ k ih =>
    have hl := (h k (Nat.lt_succ_self k)).nat hv
    have hb := tv_bd (tk_tv hv hi)
    simp only [nx]
    split
    · omega
    · exact ih fun j hj => h j (by omega)

theorem leg1_iff {ts : List T3} {js : List J4} {k i N : Nat} {r dl ex C D Q : Int} (hJ : ((i : Int), r, dl, ex) = jb js k) (hT : (C, D, Q) = tk ts i) (hN : N = nx ts js k i) :
    Leg1 ts js k ↔ i < ts.length ∧ (0 ≤ r ∧ r ≤ 119) ∧ (N : Int) ≤ r ∧ dl = r + D ∧ (1 ≤ ex ∧ ex ≤ C) ∧ (k = 0 ∨ (jb js (k - 1)).2.1 < r ∨ ((jb js (k - 1)).2.1 = r ∧ (jb js (k - 1)).1 < i)) := by
  have hid : jid js k = i := by simp [jid, ← hJ]
  simp only [Leg1, hid, ← hJ, ← hT, ← hN]
  constructor
  · rintro ⟨⟨a1, a2⟩, a⟩
    exact ⟨by omega, a⟩
  · rintro ⟨a1, a⟩
    exact ⟨⟨by omega, by omega⟩, a⟩
theorem nx_step {ts : List T3} {js : List J4} {k i : Nat} {r dl ex C D Q : Int} (hJ : ((i : Int), r, dl, ex) = jb js k) (hT : (C, D, Q) = tk ts i) (hr : 0 ≤ r) (hQ : 0 ≤ Q) (j : Nat) :
    (if j = i then Value.int .i64 (r + Q) else .int .i64 (nx ts js k j : Nat)) = .int .i64 (nx ts js (k + 1) j : Nat) := by
  have hid : jid js k = i := by simp [jid, ← hJ]
  have hrl : jrel js k = r.toNat := by simp [jrel, ← hJ]
  simp only [nx, hid, hrl]
  by_cases e : j = i
  · subst e
    rw [if_pos rfl, if_pos rfl]
    have : per (tk ts j) = Q.toNat := by simp [per, ← hT]
    rw [this]
    congr 1
    omega
  · rw [if_neg e, if_neg (fun h => e h.symm)]

theorem leg_next {ts : List T3} {js : List J4} {k : Nat} (h : ∀ j, j < k → Leg1 ts js j) (hk : Leg1 ts js k) : ∀ j, j < k + 1 → Leg1 ts js j := fun j hj => by
  by_cases e : j = k
  · subst e; exact hk
  · exact h j (by omega)
theorem leg_len {ts : List T3} {js : List J4} (h : ¬ js.length ≤ 60) : legB ts js = false := by simp [legB, h]
theorem next_step {ts : List T3} {js : List J4} {k i b : Nat} {r dl ex C D Q : Int} {W : World} (hJ : ((i : Int), r, dl, ex) = jb js k) (hT : (C, D, Q) = tk ts i) (hr : 0 ≤ r) (hQ : 0 ≤ Q) (h : W.rowIs b 3 ts.length (fun i => .int .i64 (nx ts js k i : Nat))) (m : Nat) :
    NextRow ((W.drewN m).setCell ⟨b, i, none⟩ (.int .i64 (r + Q))) b ts js (k + 1) :=
  (World.rowIs.set (w := W.drewN m) (h.of_block rfl) i (.int .i64 (r + Q))).congr fun j _ => nx_step hJ hT hr hQ j
theorem size_step {n : Nat} {wr W : World} (h : n < wr.heap.size) (hb : Below wr.heap.size wr W) (m : Nat) (a : Addr) {v : Value} : n < ((W.drewN m).setCell a v).heap.size := by
  have h1 := hb.size
  have h2 : ((W.drewN m).setCell a v).heap.size = W.heap.size := by simp [World.setCell, World.drewN]
  omega

end Go.Proofs.Ytjmagpfnikhboaa

namespace Go.Proofs.Ytjmagpfnikhboaa
open Go.RowKit Go.Deep

def lenR (ts : List T3) (js : List J4) : Nat := if legB ts js = true then 120 else 0
def lenF (ts : List T3) (js : List J4) : Nat := if legB ts js = true then js.length else 0
def runF (js : List J4) : Nat → Int := fun t => optI ((edfP js).run t)
def finF (js : List J4) : Nat → Int := fun i => (edfP js).fin 120 i
/-- The schedule of earliest deadline first, in two slices of its own; the zero value for an illegal pattern. -/
def EdfSched (base : Nat) (ts : List T3) (js : List J4) (e : Ending) (w' : World) : Prop :=
  ∃ vr vf, e = .returned (.agg #[vr, vf]) ∧ OwnI w' base vr (lenR ts js) (runF js) ∧ OwnI w' base vf (lenF ts js) (finF js) ∧ Apart vf vr
theorem leg_fits {ts : List T3} {js : List J4} (h : legB ts js = true) : Fits js (edfP js) ∧ (∀ k, k < js.length → (edfP js).ex k ≤ 1000) ∧ ∀ k, k < js.length → (jb js k).2.2.1 = ((edfP js).key k : Nat) := by
  obtain ⟨hv, hl, h1⟩ := legB_iff.1 h
  have hall := (sv_all hv).1
  have hk : ∀ k, k < js.length → (jb js k).2.1 = (jrel js k : Nat) ∧ (jb js k).2.2.2 = (jex js k : Nat) ∧ (jb js k).2.2.1 = (jdl js k : Nat) ∧ jex js k ≤ 1000 := by
    intro k hk
    have h2 := h1 k hk
    obtain ⟨a1, a2, a3, a4, a5, a6, a7⟩ := h2.nat hall
    have hb := tv_bd a2
    obtain ⟨_, ⟨b1, _⟩, _, b3, ⟨b4, _⟩, _⟩ := h2
    simp only [jrel, jex, jdl] at *
    refine ⟨by omega, by omega, by omega, by omega⟩
  exact ⟨⟨rfl, fun k h => (hk k h).1, fun k h => (hk k h).2.1⟩, fun k h => (hk k h).2.2.2, fun k h => (hk k h).2.2.1⟩

end Go.Proofs.Ytjmagpfnikhboaa

namespace Go.Proofs.Ytjmagpfnikhboaa
open Go.RowKit Go.Deep

theorem news1At (w : World) (c : Int) (t : TypeId) {k : Nat} (hk : w.heap.size = k) : ∀ (j : Nat) (u : Value), [Value.int .i64 c][j]? = some u → (w.alloc (.cells #[.int .i64 c] t)).cell? ((⟨k, 0, none⟩ : Addr).add j) = some u := by
  subst hk
  exact news1 w c t
theorem run_make_cap (n : Nat) (hn : n ≤ 1099511627776) (w : World) :
    (Instr.makeSlice 24 (.int .i64 0) (.int .i64 (n : Int))).run Try.prog w = .ok (.slice (some ⟨w.heap.size, 0, none⟩) 0 n) (w.alloc (.cells (madeCells #[.int .i64 0] n) 3)) := by
  obtain ⟨i, hi, hz, hs, hb⟩ := info_parts intInfo
  have h := run_make (P := Try.prog) w 24 3 i _ Try.underlying24 hi hz .i64 .i64 (0 : Int) (n : Int) (by omega) (by omega) (by rw [hb]; omega) (by omega)
  rw [hs] at h
  simpa [Value.cells] using h

set_option maxRecDepth 100000 in
set_option maxHeartbeats 1000000 in
/-- impl.executionTimes. -/
theorem execTimes_any (ja : Option Addr) (jcap : Nat) (js : List J4) (w : World) (hj : RowJ w ja js) (hn : js.length ≤ 60) :
    Calls Try.prog 84 #[.slice ja js.length jcap] w fun e w' =>
      ∃ v, e = .returned v ∧ OwnI w' w.heap.size v js.length (fun k => (jb js k).2.2.2) ∧ Below w.heap.size w w' := by
  obtain ⟨i0, hi, hz, hsz, hby⟩ := info_parts intInfo
  have HI := Lib.hid (And.intro hi (And.intro hz (And.intro hsz hby)))
  clear hi hz hsz hby
  have HJ := Lib.hid hj
  clear hj
  have hmk := run_make_cap js.length (by omega)
  go_enter Try.func84, Try.ntmps84
  go_wp2
  clear hmk
  go_loopg [3, 11] js.length (fun m s i wr => ∃ k : Nat, m + k = js.length ∧ i = .int .i64 k ∧ OwnI wr w.heap.size s k (fun k => (jb js k).2.2.2) ∧ Below w.heap.size w wr)
  case atStart => exact ⟨0, rfl, rfl, World.ownsRow_made w _ js.length (Nat.le_refl _) (by unfold maxLen; omega) (by simp [size_madeCells]), below_box _ _⟩
  case round =>
    obtain ⟨k, hk, rfl, ho, B⟩ := hrel
    have HK := Lib.hid hk
    have HO := Lib.hid ho
    have hkk : k ≤ js.length := by omega
    clear hk ho
    by_cases hlt : k < js.length
    · have RJ := Lib.hid (HJ.out.below B)
      obtain ⟨bj, oj, rfl, hbj, x0, x1, x2, x3⟩ := RJ.out k hlt
      obtain ⟨⟨id, r, dl, c⟩, hJ⟩ : ∃ j, j = jb js k := ⟨_, rfl⟩
      rw [← hJ] at x0 x1 x2 x3
      simp only at x0 x1 x2 x3
      have HJK := Lib.hid hJ
      clear hJ
      have hk0 : (0 : Int) ≤ k := by omega
      have hk1 : (k : Int) < js.length := by omega
      go_wp2_with (at_builtin; refine wpList_append_own _ rfl (.tmp 15) (.tmp 18) 24 rfl w.heap.size 3 i0 _ 1 8 Try.underlying24 HI.out.1 HI.out.2.1 HI.out.2.2.1 HI.out.2.2.2 rfl (by decide) _ k (vals (fun k => (jb js k).2.2.2) k) rfl (World.ownsRow.alloc (World.ownsRow.alloc HO.out _) _) ⟨wr.heap.size + 1, 0, none⟩ 1 1 [.int .i64 c] rfl rfl (news1At (wr.alloc (.cells #[.int .i64 id, .int .i64 r, .int .i64 dl, .int .i64 c] 82)) _ _ (by simp)) (one1 _) (by unfold maxLen; omega) (by omega) (by have := B.size; simp; omega) ?_; intro v' w' hown' hgrow hnil)
      have B0 : Below w.heap.size w ((wr.alloc (.cells #[.int .i64 id, .int .i64 r, .int .i64 dl, .int .i64 c] 82)).alloc (.cells #[.int .i64 c] 3)) := (B.alloc B.size _).alloc (by have := B.size; simp; omega) _
      have B1 : Below w.heap.size w w' := B0.grown hgrow B0.size (fun k hk => HO.out.from k hk)
      have HO1 := Lib.hid (show OwnI w' w.heap.size v' (k + 1) (fun k => (jb js k).2.2.2) by unfold OwnI; rw [vals_succ]; rw [← HJK.out]; exact hown')
      clear hown' hgrow hnil B0
      go_roundg (gk - 1)
      case measure => have := HK.out; omega
      case rel => exact ⟨k + 1, by have := HK.out; omega, by go_num, HO1.out, B1⟩
    · obtain rfl : k = js.length := by omega
      go_wp2
      go_ret
      exact ⟨_, rfl, HO.out, B⟩

end Go.Proofs.Ytjmagpfnikhboaa
