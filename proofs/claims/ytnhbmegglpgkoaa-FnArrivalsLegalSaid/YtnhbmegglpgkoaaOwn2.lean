/- Slices of servers or of requests (two numbers each) that a function has grown by itself, while it reads the code's bytes. No function is walked. No condition beyond those that each theorem names. -/
import Derived.Test.YtnhbmegglpgkoaaSrv
import Derived.Test.YtnhbmegglpgkoaaMem
import Derived.Test.YtnhbmegglpgkoaaJobsDraw
namespace Go.Proofs.Ytnhbmegglpgkoaa
open Go.RowKit Go.Deep

def cell2 (j : A2) : Nat → Int
  | 0 => j.1
  | _ => j.2
def f2 (l : List A2) (m : Nat) : Int := cell2 (ab l (m / 2)) (m % 2)
theorem ab_app {o : List A2} {x : A2} {k : Nat} (h : k < o.length) : ab (o ++ [x]) k = ab o k := by
  simp only [ab, List.getD_eq_getElem?_getD]
  rw [List.getElem?_append_left h]
theorem ab_last (o : List A2) (x : A2) : ab (o ++ [x]) o.length = x := by simp [ab]
/-- From block base on: a slice of its own, of type t's elements, that holds these pairs. -/
def Own2 (t : TypeId) (w : World) (base : Nat) (v : Value) (l : List A2) : Prop := w.ownsRow base t 2 v l.length (vals (f2 l) (l.length * 2))
theorem vals_snoc2 (l : List A2) (j : A2) : vals (f2 (l ++ [j])) ((l ++ [j]).length * 2) = vals (f2 l) (l.length * 2) ++ [.int .i64 j.1, .int .i64 j.2] := by
  have e : (l ++ [j]).length * 2 = l.length * 2 + 1 + 1 := by simp; omega
  rw [e, vals_succ, vals_succ]
  have h0 : ∀ c, c < 2 → f2 (l ++ [j]) (l.length * 2 + c) = cell2 j c := by
    intro c hc
    have h1 : (l.length * 2 + c) / 2 = l.length := by omega
    have h2 : (l.length * 2 + c) % 2 = c := by omega
    rw [f2, h1, h2, ab_last]
  have hp : vals (f2 (l ++ [j])) (l.length * 2) = vals (f2 l) (l.length * 2) := vals_congr fun k hk => by rw [f2, f2, ab_app (by omega)]
  have z0 := h0 0 (by omega)
  rw [Nat.add_zero] at z0
  rw [hp, z0, h0 1 (by omega)]
  simp [cell2]
theorem Own2.lt {t : TypeId} {w : World} {base : Nat} {v : Value} {l : List A2} (h : Own2 t w base v l) : ∀ k, v.ownBlock = some k → base ≤ k ∧ k < w.heap.size := World.ownsRow.lt h
theorem Own2.shape {t : TypeId} {w : World} {base : Nat} {v : Value} {l : List A2} (h : Own2 t w base v l) : ∃ a cap, v = .slice a l.length cap := own_shape h
theorem Own2.row2 {t : TypeId} {w : World} {base : Nat} {a : Option Addr} {cap : Nat} {l : List A2} (h : Own2 t w base (.slice a l.length cap) l) : Row2 w a l := by
  intro k hk
  obtain ⟨_, ⟨_, e⟩ | ⟨g, cap', cur, e, h3, hb, hnc, hcm, hsz, hx⟩⟩ := h
  · omega
  · simp only [Value.slice.injEq] at e
    have hg : g < w.heap.size := (Array.getElem?_eq_some_iff.1 hb).1
    have hc : ∀ m, m < l.length * 2 → w.cell? ⟨g, m, none⟩ = some (.int .i64 (f2 l m)) := fun m hm => by
      rw [← vals_at (f2 l) hm, ← hx, List.getElem?_take_of_lt (by omega), Array.getElem?_toList]
      simp [World.cell?, hb]
    have f : ∀ c, c < 2 → f2 l (k * 2 + c) = cell2 (ab l k) c := fun c hc => by
      have h1 : (k * 2 + c) / 2 = k := by omega
      have h2 : (k * 2 + c) % 2 = c := by omega
      rw [f2, h1, h2]
    refine ⟨g, 0, e.1, hg, ?_, ?_⟩
    · rw [Nat.zero_add, hc _ (by omega)]; exact congrArg _ (congrArg _ (f 0 (by omega)))
    · rw [Nat.zero_add, hc _ (by omega)]; exact congrArg _ (congrArg _ (f 1 (by omega)))
theorem Own2.below {t : TypeId} {w w' : World} {base : Nat} {v : Value} {l : List A2} (h : Own2 t w base v l) (hb : Below w.heap.size w w') : Own2 t w' base v l :=
  World.ownsRow.kept h (gb_of_below hb none) (by cases e : v.ownBlock with
    | none => exact .inl rfl
    | some k => exact .inr (by simp))
theorem Own2.kept {t : TypeId} {w w' : World} {base : Nat} {v : Value} {l : List A2} {row : Nat} (h : Own2 t w base v l) (hg : w.grownBy w' (some row)) (hr : row < base) : Own2 t w' base v l :=
  World.ownsRow.kept h hg (by cases e : v.ownBlock with
    | none => exact .inl rfl
    | some k => exact .inr (fun h2 => by have := (h.lt k e).1; simp only [Option.some.injEq] at h2; omega))
theorem Own2.mono {t : TypeId} {w : World} {base base' : Nat} {v : Value} {l : List A2} (h : Own2 t w base v l) (hb : base' ≤ base) : Own2 t w base' v l := by
  obtain ⟨h1, h2 | ⟨g, cap, cur, h2, h3, h4⟩⟩ := h
  · exact ⟨h1, .inl h2⟩
  · exact ⟨h1, .inr ⟨g, cap, cur, h2, Nat.le_trans hb h3, h4⟩⟩
theorem Own2.empty (t : TypeId) (w : World) : Own2 t (w.alloc (.cells #[] t)) w.heap.size (.slice (some ⟨w.heap.size, 0, none⟩) 0 0) [] :=
  ⟨rfl, .inr ⟨w.heap.size, 0, #[], rfl, Nat.le_refl _, blk_alloc_new _ _, Nat.le_refl _, by simp [maxLen], rfl, rfl⟩⟩
theorem Own2.push {t : TypeId} {w' : World} {base : Nat} {v' : Value} {l : List A2} {i r : Int} (ho : w'.ownsRow base t 2 v' (l.length + 1) (vals (f2 l) (l.length * 2) ++ [.int .i64 i, .int .i64 r])) : Own2 t w' base v' (l ++ [(i, r)]) := by
  unfold Own2
  rw [vals_snoc2]
  simpa using ho
theorem news2 (w : World) (i r : Int) (t : TypeId) : ∀ (j : Nat) (u : Value), [Value.int .i64 i, .int .i64 r][j]? = some u → (w.alloc (.cells #[.int .i64 i, .int .i64 r] t)).cell? ((⟨w.heap.size, 0, none⟩ : Addr).add j) = some u := by
  intro j u hj
  match j, hj with
  | 0, hj => simp at hj; subst hj; simp [Addr.add, go_sem]
  | 1, hj => simp at hj; subst hj; simp [Addr.add, go_sem]
  | j + 2, hj => simp at hj
theorem one2 (i r : Int) : ∀ u ∈ [Value.int .i64 i, .int .i64 r], u.oneCell' = true := by
  intro u hu
  simp at hu
  rcases hu with rfl | rfl <;> rfl
/-- Since w only the reader rb and new blocks have turned; the slice s of new memory holds the pairs o. -/
structure PT (t : TypeId) (rb : Nat) (w wr : World) (q : Nat) (s : Value) (o : List A2) : Prop where
  gb : w.grownBy wr (some rb)
  rd : Rd wr rb q
  ow : Own2 t wr w.heap.size s o
  rl : rb < w.heap.size
variable {t : TypeId} {rb : Nat} {w wr w' : World} {q q' : Nat} {s : Value} {o : List A2}
theorem PT.pick (h : PT t rb w wr q s o) (hg : wr.grownBy w' (some rb)) (hr : Rd w' rb q') : PT t rb w w' q' s o := ⟨gb_trans h.gb hg, hr, h.ow.kept hg h.rl, h.rl⟩
theorem PT.more (h : PT t rb w wr q s o) (hq : q ≤ q') : PT t rb w wr q' s o := { h with rd := h.rd.mono hq }
theorem PT.alloc (h : PT t rb w wr q s o) (x : Obj) : PT t rb w (wr.alloc x) q s o := h.pick (gb_below (below_box _ _)) (h.rd.alloc _)
theorem PT.start (hr : Rd w rb q) (t : TypeId) : PT t rb w (w.alloc (.cells #[] t)) q (.slice (some ⟨w.heap.size, 0, none⟩) 0 0) [] := ⟨gb_below (below_box _ _), hr.alloc _, Own2.empty t w, hr.lt⟩
theorem PT.push {v' : Value} {i r : Int} (h : PT t rb w wr q s o) (ho : w'.ownsRow w.heap.size t 2 v' (o.length + 1) (vals (f2 o) (o.length * 2) ++ [.int .i64 i, .int .i64 r])) (hg : wr.grownBy w' s.ownBlock) :
    PT t rb w w' q v' (o ++ [(i, r)]) := by
  have hl := h.rl
  have hs := h.gb.size
  have hr : ∀ k, s.ownBlock = some k → w.heap.size ≤ k := fun k hk => (h.ow.lt k hk).1
  refine ⟨⟨hg.os.trans h.gb.os, hg.tape.trans h.gb.tape, hg.output.trans h.gb.output, Nat.le_trans hs hg.size, fun k hk hne => ?_⟩, h.rd.kept hg.size fun i hi => hg.block i (by omega) fun e => by have := hr i e.symm; omega, Own2.push ho, h.rl⟩
  exact (hg.block k (by omega) fun e => by have := hr k e.symm; omega).trans (h.gb.block k hk hne)
theorem srvInfo : (Try.prog.info? 27).map (fun i => (i.zero, i.size, i.bytes)) = some (some (.agg #[.int .i64 0, .int .i64 0]), 2, 16) := by kernel_rfl
theorem arrInfo : (Try.prog.info? 34).map (fun i => (i.zero, i.size, i.bytes)) = some (some (.agg #[.int .i64 0, .int .i64 0]), 2, 16) := by kernel_rfl

end Go.Proofs.Ytnhbmegglpgkoaa
