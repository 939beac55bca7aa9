/- What an execution of a program keeps in memory: the struct, the function that chooses, what that one keeps. No function is walked. Conditions: those of each theorem. -/
import Derived.Test.YtlcdmjcikbgnpaaPrgMeas
namespace Go.Proofs.Ytlcdmjcikbgnpaa
open Go.RowKit Go.Deep

/-- From w to w' only blocks of P have turned, and new ones. -/
structure ChgP (P : Nat → Prop) (w w' : World) : Prop where
  os : w'.os = w.os
  tape : w'.tape = w.tape
  output : w'.output = w.output
  size : w.heap.size ≤ w'.heap.size
  block : ∀ k, k < w.heap.size → ¬ P k → w'.heap[k]? = w.heap[k]?
theorem ChgP.refl (P : Nat → Prop) (w : World) : ChgP P w w := ⟨rfl, rfl, rfl, Nat.le_refl _, fun _ _ _ => rfl⟩
theorem ChgP.trans {P Q : Nat → Prop} {w w1 w2 : World} (h1 : ChgP P w w1) (h2 : ChgP Q w1 w2) (h : ∀ b, b < w.heap.size → Q b → P b) : ChgP P w w2 :=
  ⟨h2.os.trans h1.os, h2.tape.trans h1.tape, h2.output.trans h1.output, Nat.le_trans h1.size h2.size, fun k hk hp => (h2.block k (Nat.lt_of_lt_of_le hk h1.size) (fun hq => hp (h k hk hq))).trans (h1.block k hk hp)⟩
theorem ChgP.of {P : Nat → Prop} {w w' : World} (h : Below w.heap.size w w') : ChgP P w w' := ⟨h.os, h.tape, h.output, h.size, fun k hk _ => h.block k hk⟩
theorem ChgP.cell {P : Nat → Prop} {w w' : World} (h : ChgP P w w') {p : Addr} (hp : p.block < w.heap.size) (hn : ¬ P p.block) : w'.cell? p = w.cell? p := World.cell?_of_block (h.block p.block hp hn)
theorem ChgP.below {P : Nat → Prop} {w w' : World} (h : ChgP P w w') {B : Nat} (hB : B ≤ w.heap.size) (hP : ∀ b, P b → B ≤ b) : Below B w w' :=
  ⟨h.os, h.tape, h.output, h.size, fun k hk => h.block k (Nat.lt_of_lt_of_le hk hB) (fun hp => by have := hP k hp; omega)⟩
theorem ChgP.set {P : Nat → Prop} (w : World) (p : Addr) (x : Value) (hp : P p.block) : ChgP P w (w.setCell p x) :=
  ⟨rfl, rfl, rfl, by simp, fun k _ hn => by simp [World.setCell, Array.getElem?_modify, show p.block ≠ k from fun e => hn (e ▸ hp)]⟩

/-- The struct of an execution lies in block E. -/
structure ExAt (w : World) (E : Nat) (v fv : Value) (t : Nat) : Prop where
  lt : E < w.heap.size
  c0 : w.cell? ⟨E, 0, none⟩ = some v
  ck : ∀ j u, kindsC[j]? = some u → w.cell? ⟨E, 1 + j, none⟩ = some u
  c16 : w.cell? ⟨E, 16, none⟩ = some fv
  c17 : w.cell? ⟨E, 17, none⟩ = some (.int .i64 (t : Int))
  f17 : w.frozen? ⟨E, 17, none⟩ = false
theorem ExAt.keep {w w' : World} {E : Nat} {v fv : Value} {t : Nat} (h : ExAt w E v fv t) (hb : w'.heap[E]? = w.heap[E]?) (hs : w.heap.size ≤ w'.heap.size) : ExAt w' E v fv t :=
  ⟨Nat.lt_of_lt_of_le h.lt hs, (World.cell?_of_block (a := ⟨E, 0, none⟩) hb).trans h.c0, fun j u hj => (World.cell?_of_block (a := ⟨E, 1 + j, none⟩) hb).trans (h.ck j u hj), (World.cell?_of_block (a := ⟨E, 16, none⟩) hb).trans h.c16, (World.cell?_of_block (a := ⟨E, 17, none⟩) hb).trans h.c17, (World.frozen?_of_block (a := ⟨E, 17, none⟩) hb).trans h.f17⟩
theorem ExAt.set {w : World} {E : Nat} {v fv : Value} {t : Nat} (h : ExAt w E v fv t) (t' : Nat) : ExAt (w.setCell ⟨E, 17, none⟩ (.int .i64 (t' : Int))) E v fv t' := by
  have h17 := h.c17
  have hf := h.f17
  have hlt := h.lt
  refine ⟨by simpa using h.lt, ?_, fun j u hj => ?_, ?_, ?_, ?_⟩
  · have := h.c0; go_simp
  · have hj15 : j < 15 := by
      have := (Array.getElem?_eq_some_iff.1 hj).1
      simpa [kindsC] using this
    have := h.ck j u hj
    have hne : ¬ (17 = 1 + j) := by omega
    have hne2 : ¬ (1 + j = 17) := by omega
    go_simp
  · have := h.c16; go_simp
  · go_simp
  · go_simp

/-- The function fn over the two boxes p1, p2 chooses; what it keeps of s (St) lies in the blocks nB and sb; ch is what it answers, rs what a node takes and leaves; B0: all below stays. -/
structure Chooser (ps : List N5) (a : Option Addr) (B0 E nB fn p1 p2 : Nat) (St : World → Nat → List Int → Prop) (ch : Nat → Nat → List Int → Nat × List Int) (rs : Nat → List Int → Nat × List Int) (Len : List Int → Nat → Prop) : Prop where
  eg : ∀ args w, (callFunc fn args).run Try.prog w = .ok (.enter fn args) w
  pv : PV ps
  n12 : ps.length ≤ 12
  e0 : B0 ≤ E
  en : E ≠ nB
  row : ∀ w w' : World, RowN w a ps → w.heap.size ≤ w'.heap.size → (∀ b, b < B0 → w'.heap[b]? = w.heap[b]?) → RowN w' a ps
  blk : ∀ w sb s, St w sb s → B0 ≤ nB ∧ nB < w.heap.size ∧ B0 ≤ sb ∧ sb < w.heap.size
  keep : ∀ w w' sb s, St w sb s → w.heap.size ≤ w'.heap.size → (∀ b, b < B0 ∨ b = nB ∨ b = sb → w'.heap[b]? = w.heap[b]?) → St w' sb s
  call : ∀ (w : World) (sb : Nat) (s : List Int) (t i m : Nat), St w sb s → Len s t → t ≤ 600 → i < ps.length → wc8 true ps i ≤ 600 → 1 ≤ m → m ≤ 5 → Calls Try.prog fn #[.int .i64 (i : Int), .int .i64 (m : Int), .pointer (some ⟨p1, 0, none⟩), .pointer (some ⟨p2, 0, none⟩)] w fun e w' =>
    ∃ sb', e = .returned (.int .i64 ((ch i m s).1 : Nat)) ∧ St w' sb' (ch i m s).2 ∧ ChgP (fun b => b = nB ∨ b = sb) w w' ∧ (sb' = sb ∨ w.heap.size ≤ sb')
  lenC : ∀ (s : List Int) (t i m : Nat), Len s t → Len (ch i m s).2 (t + 1)
  lenM : ∀ (s : List Int) (t t' : Nat), Len s t → t ≤ t' → Len s t'
  r1 : ∀ i c s, nd8 ps i = (1, ((c : Nat) : Int), 0, 0, 0) → rs i s = (c, s)
  r2 : ∀ i (x y : Nat) s, i < ps.length → wc8 true ps i ≤ 600 → nd8 ps i = (2, 0, (x : Int), (y : Int), 0) → x < i → y < i → rs i s = ((rs x s).1 + (rs y (rs x s).2).1, (rs y (rs x s).2).2)
  r3 : ∀ i (c x y : Nat) s, i < ps.length → wc8 true ps i ≤ 600 → nd8 ps i = (3, (c : Int), (x : Int), (y : Int), 0) → x < i → y < i → rs i s = (c + (rs (if (ch i 2 s).1 = 0 then x else y) (ch i 2 s).2).1, (rs (if (ch i 2 s).1 = 0 then x else y) (ch i 2 s).2).2)
  r4 : ∀ i (c x m : Nat) s, i < ps.length → wc8 true ps i ≤ 600 → nd8 ps i = (4, (c : Int), (x : Int), 0, (m : Int)) → x < i → m ≤ 4 → rs i s = itr8 (rs x) c (ch i (m + 1) s).1 (c, (ch i (m + 1) s).2)
  bnd : ∀ i s, i < ps.length → (rs i s).1 ≤ wc8 true ps i
  lpk : ∀ i (c x m : Nat) s, nd8 ps i = (4, (c : Int), (x : Int), 0, (m : Int)) → (ch i (m + 1) s).1 ≤ m

/-- The state of an execution: t ticks have gone, s is what the choosing function keeps. -/
structure Exs (ps : List N5) (a : Option Addr) (cap E fn p1 p2 nB : Nat) (St : World → Nat → List Int → Prop) (Len : List Int → Nat → Prop) (w : World) (sb : Nat) (s : List Int) (t : Nat) : Prop where
  ex : ExAt w E (.slice a ps.length cap) (.func (.func fn) #[] #[.pointer (some ⟨p1, 0, none⟩), .pointer (some ⟨p2, 0, none⟩)]) t
  st : St w sb s
  row : RowN w a ps
  len : Len s t
  ne : E ≠ sb
variable {ps : List N5} {a : Option Addr} {cap B0 E nB fn p1 p2 : Nat} {St : World → Nat → List Int → Prop} {ch : Nat → Nat → List Int → Nat × List Int} {rs : Nat → List Int → Nat × List Int} {Len : List Int → Nat → Prop} {w w' : World} {sb sb' t : Nat} {s s' : List Int}
/-- Blocks that an execution may turn. -/
def Foot (E nB sb : Nat) (b : Nat) : Prop := b = E ∨ b = nB ∨ b = sb
theorem Exs.below (h : Exs ps a cap E fn p1 p2 nB St Len w sb s t) (C : Chooser ps a B0 E nB fn p1 p2 St ch rs Len) (hb : Below w.heap.size w w') : Exs ps a cap E fn p1 p2 nB St Len w' sb s t := by
  obtain ⟨k1, k2, k3, k4⟩ := C.blk _ _ _ h.st
  exact ⟨h.ex.keep (hb.block E h.ex.lt) hb.size, C.keep _ _ _ _ h.st hb.size (fun b hq => hb.block b (by rcases hq with hq | rfl | rfl <;> omega)), h.row.below hb, h.len, h.ne⟩
theorem Exs.time (h : Exs ps a cap E fn p1 p2 nB St Len w sb s t) (C : Chooser ps a B0 E nB fn p1 p2 St ch rs Len) {t' : Nat} (ht : t ≤ t') : Exs ps a cap E fn p1 p2 nB St Len (w.setCell ⟨E, 17, none⟩ (.int .i64 (t' : Int))) sb s t' := by
  have hne := h.ne
  have he0 := C.e0
  have hen := C.en
  have hk : ∀ b, b ≠ E → (w.setCell ⟨E, 17, none⟩ (.int .i64 (t' : Int))).heap[b]? = w.heap[b]? := fun b hb => by
    simp [World.setCell, Array.getElem?_modify, show E ≠ b from fun e => hb e.symm]
  exact ⟨h.ex.set t', C.keep _ _ _ _ h.st (by simp) (fun b hq => hk b (by rcases hq with hq | rfl | rfl; omega; exact fun e => hen e.symm; exact fun e => hne e.symm)), C.row _ _ h.row (by simp) (fun b hb => hk b (by omega)), C.lenM _ _ _ h.len ht, hne⟩
/-- Behind a choice. -/
theorem Exs.chosen (h : Exs ps a cap E fn p1 p2 nB St Len w sb s t) (C : Chooser ps a B0 E nB fn p1 p2 St ch rs Len) (hc : ChgP (fun b => b = nB ∨ b = sb) w w') (hs : St w' sb' s') (hl : Len s' t) (hb : sb' = sb ∨ w.heap.size ≤ sb') : Exs ps a cap E fn p1 p2 nB St Len w' sb' s' t := by
  obtain ⟨k1, k2, k3, k4⟩ := C.blk _ _ _ h.st
  have hne := h.ne
  have hlt := h.ex.lt
  refine ⟨h.ex.keep (hc.block E hlt (by rintro (e | e); exact C.en e; exact hne e)) hc.size, hs, C.row _ _ h.row hc.size (fun b hb => hc.block b (by omega) (by rintro (e | e) <;> omega)), hl, ?_⟩
  rcases hb with rfl | hb
  · exact hne
  · omega
theorem foot_time (w : World) (x : Value) : ChgP (Foot E nB sb) w (w.setCell ⟨E, 17, none⟩ x) := ChgP.set w _ _ (.inl rfl)
theorem foot_chosen (hc : ChgP (fun b => b = nB ∨ b = sb) w w') : ChgP (Foot E nB sb) w w' := ⟨hc.os, hc.tape, hc.output, hc.size, fun k hk hn => hc.block k hk (fun h => hn (.inr h))⟩
theorem ChgP.then {w1 w2 : World} (h1 : ChgP (Foot E nB sb) w w1) (h2 : ChgP (Foot E nB sb') w1 w2) (hb : sb' = sb ∨ w.heap.size ≤ sb') : ChgP (Foot E nB sb) w w2 :=
  h1.trans h2 (fun b hb' h => by
    rcases h with h | h | h
    · exact .inl h
    · exact .inr (.inl h)
    · rcases hb with e | e
      · exact .inr (.inr (h.trans e))
      · omega)
/-- The function's answer at node i. -/
def RunPost (ps : List N5) (a : Option Addr) (cap E fn p1 p2 nB : Nat) (St : World → Nat → List Int → Prop) (Len : List Int → Nat → Prop) (w : World) (sb t : Nat) (r : Nat × List Int) (e : Ending) (w' : World) : Prop :=
  e = .returned (.tuple #[]) ∧ ∃ sb', Exs ps a cap E fn p1 p2 nB St Len w' sb' r.2 (t + r.1) ∧ ChgP (Foot E nB sb) w w' ∧ (sb' = sb ∨ w.heap.size ≤ sb')

end Go.Proofs.Ytlcdmjcikbgnpaa
