/- The program's simulation with the stack resource policy: its memory, and the contracts of covers, push, pop, top, smallestCeiling, mayStart, release, startMostUrgent. Conditions: the cells hold what is said; valid arguments. -/
import Derived.Test.YtlagghoohloklaaPoolAll
import Derived.Test.YtlagghoohloklaaHeaps
import Derived.Test.YtlagghoohloklaaRunImpl
import Derived.Test.YtlagghoohloklaaSecImpl2
import Derived.StillTailTactics
import Derived.Test.YtlagghoohloklaaSrpAll
namespace Go.Proofs.Ytlagghoohloklaa
open Go.RowKit Go.Deep

/-- The world without its blocks from R on. -/
def trunc (w : World) (R : Nat) : World := { w with heap := w.heap.extract 0 R }
theorem trunc_size {w : World} {R : Nat} (h : R ≤ w.heap.size) : (trunc w R).heap.size = R := by
  show (w.heap.extract 0 R).size = R
  rw [Array.size_extract]
  omega
theorem trunc_block {w : World} {R k : Nat} (h : R ≤ w.heap.size) (hk : k < R) : (trunc w R).heap[k]? = w.heap[k]? := by
  show (w.heap.extract 0 R)[k]? = w.heap[k]?
  rw [Array.getElem?_extract, if_pos (by omega), Nat.zero_add]
theorem trunc_below {w : World} {R : Nat} (h : R ≤ w.heap.size) : Below R (trunc w R) w := ⟨rfl, rfl, rfl, by rw [trunc_size h]; exact h, fun k hk => (trunc_block h hk).symm⟩
theorem below_trunc {w0 w : World} {R : Nat} (h : Below w0.heap.size w0 w) (h0 : w0.heap.size ≤ R) (hR : R ≤ w.heap.size) : Below w0.heap.size w0 (trunc w R) :=
  ⟨h.os, h.tape, h.output, by rw [trunc_size hR]; exact h0, fun k hk => (trunc_block hR (by omega)).trans (h.block k hk)⟩
theorem OwnI.rebase {w : World} {B B' : Nat} {v : Value} {n : Nat} {f : Nat → Int} (h : OwnI w B v n f) (hb : ∀ k, v.ownBlock = some k → B' ≤ k) : OwnI w B' v n f := by
  obtain ⟨h1, h2 | ⟨g, cap, cur, rfl, h3, h4⟩⟩ := h
  · exact ⟨h1, .inl h2⟩
  · exact ⟨h1, .inr ⟨g, cap, cur, rfl, hb g rfl, h4⟩⟩
theorem OwnF.of_block {t : TypeId} {size : Nat} {w w' : World} {base : Nat} {v : Value} {n : Nat} {F : Nat → Value} (h : OwnF t size w base v n F) (e : ∀ k, v.ownBlock = some k → w'.heap[k]? = w.heap[k]?) : OwnF t size w' base v n F := by
  obtain ⟨h1, h2 | ⟨g, cap, cur, rfl, h3, h4, h5⟩⟩ := h
  · exact ⟨h1, .inl h2⟩
  · exact ⟨h1, .inr ⟨g, cap, cur, rfl, h3, (e g rfl).trans h4, h5⟩⟩
/-- The comparison. -/
def cbV (c : Nat) : Value := .func (.func 108) #[] #[.pointer (some ⟨c, 0, none⟩)]
/-- What no item of the pool touches. -/
def Off (R c : Nat) (v : Value) (i : It) : Prop := i.v.ownBlock ≠ some R ∧ i.v.ownBlock ≠ some c ∧ Apart i.v v
theorem off_v {R c : Nat} {v : Value} {i i' : It} (e : i'.v = i.v) (h : Off R c v i) : Off R c v i' := by
  unfold Off at h ⊢
  rw [e]
  exact h
theorem off_set {R c j : Nat} {v : Value} {its : List It} {i' : It} (h : ∀ (j : Nat) (i : It), its[j]? = some i → Off R c v i) (hi : Off R c v i') : ∀ (k : Nat) (b : It), (its.set j i')[k]? = some b → Off R c v b := fun k b hb => by
  rw [List.getElem?_set] at hb
  by_cases e : j = k
  · subst e
    rw [if_pos rfl] at hb
    split at hb
    · cases hb; exact hi
    · cases hb
  · rw [if_neg e] at hb
    exact h k b hb
structure RS (w wr : World) (R c : Nat) (ja : Option Addr) (jcap : Nat) (js : List J4) (its : List It) (v : Value) (n : Nat) (f : Nat → Nat) : Prop where
  ps : PS w wr its
  cR : c < R
  ge : w.heap.size ≤ R
  c0 : wr.cell? ⟨R, 0, none⟩ = some v
  c1 : wr.cell? ⟨R, 1, none⟩ = some (cbV c)
  f0 : wr.frozen? ⟨R, 0, none⟩ = false
  cc : wr.cell? ⟨c, 0, none⟩ = some (.slice ja js.length jcap)
  own : OwnI wr (R + 1) v n (fun k => ((f k : Nat) : Int))
  ap : ∀ (j : Nat) (i : It), its[j]? = some i → Off R c v i
  lt : ∀ k, k < n → f k < js.length
variable {w wr w' : World} {R c : Nat} {ja : Option Addr} {jcap : Nat} {js : List J4} {its its' : List It} {v : Value} {n : Nat} {f : Nat → Nat}
theorem RS.R_lt (h : RS w wr R c ja jcap js its v n f) : R < wr.heap.size := World.block_lt_of_cell? wr ⟨R, 0, none⟩ h.c0
theorem RS.turn (h : RS w wr R c ja jcap js its v n f) (hp : PS w w' its') (hb : ∀ k, (k = R ∨ k = c ∨ v.ownBlock = some k) → w'.heap[k]? = wr.heap[k]?) (ha : ∀ (j : Nat) (i : It), its'[j]? = some i → Off R c v i) : RS w w' R c ja jcap js its' v n f :=
  ⟨hp, h.cR, h.ge, (World.cell?_of_block (a := ⟨R, 0, none⟩) (hb R (.inl rfl))).trans h.c0, (World.cell?_of_block (a := ⟨R, 1, none⟩) (hb R (.inl rfl))).trans h.c1, (World.frozen?_of_block (a := ⟨R, 0, none⟩) (hb R (.inl rfl))).trans h.f0,
    (World.cell?_of_block (a := ⟨c, 0, none⟩) (hb c (.inr (.inl rfl)))).trans h.cc, h.own.of_block fun k hk => hb k (.inr (.inr hk)), ha, h.lt⟩
theorem RS.ublt (h : RS w wr R c ja jcap js its v n f) {k : Nat} (hk : k = R ∨ k = c ∨ v.ownBlock = some k) : k < wr.heap.size := by
  have h1 := h.R_lt
  have h2 := h.cR
  rcases hk with rfl | rfl | e
  · exact h1
  · omega
  · exact (h.own.lt k e).2
theorem RS.below (h : RS w wr R c ja jcap js its v n f) (hb : Below wr.heap.size wr w') : RS w w' R c ja jcap js its v n f := h.turn (h.ps.below hb) (fun k hk => hb.block k (h.ublt hk)) h.ap
theorem RS.alloc (h : RS w wr R c ja jcap js its v n f) (o : Obj) : RS w (wr.alloc o) R c ja jcap js its v n f := h.below (below_box _ _)
theorem off_ne {i : It} {k g : Nat} (h : Off R c v i) (hg : i.v.ownBlock = some g) (hk : k = R ∨ k = c ∨ v.ownBlock = some k) : k ≠ g := by
  rintro rfl
  rcases hk with rfl | rfl | e
  · exact h.1 hg
  · exact h.2.1 hg
  · exact h.2.2 k hg e
/-- A store into a struct. -/
theorem RS.st {t : TypeId} {nn g j : Nat} {F F' : Nat → Value} (h : RS w wr R c ja jcap js its v n f) (hj : its[j]? = some (itB t nn g F)) (m : Nat) (hm : m < nn) (x : Value) (e : ∀ k, k < nn → (if k = m then x else F k) = F' k) :
    RS w (wr.setCell ⟨g, m, none⟩ x) R c ja jcap js (its.set j (itB t nn g F')) v n f := by
  have h0 := h.ap j _ hj
  exact h.turn (h.ps.st hj m hm x e) (fun k hk => Below.heap_setCell wr ⟨g, m, none⟩ x k (off_ne h0 rfl hk)) (off_set h.ap (off_v rfl h0))
theorem RS.setN {nn g j cap m : Nat} {x : Int} {a a' : Nat → Int} (h : RS w wr R c ja jcap js its v n f) (hj : its[j]? = some (itN (.slice (some ⟨g, 0, none⟩) nn cap) nn a)) (hm : m < nn) (e : ∀ k, k < nn → (if k = m then x else a k) = a' k) :
    RS w (wr.setCell ⟨g, m, none⟩ (.int .i64 x)) R c ja jcap js (its.set j (itN (.slice (some ⟨g, 0, none⟩) nn cap) nn a')) v n f := by
  have h0 := h.ap j _ hj
  exact h.turn (h.ps.setN hj hm e) (fun k hk => Below.heap_setCell wr ⟨g, m, none⟩ _ k (off_ne h0 rfl hk)) (off_set h.ap (off_v rfl h0))
theorem RS.congrN {nn j : Nat} {u : Value} {a a' : Nat → Int} (h : RS w wr R c ja jcap js its v n f) (hj : its[j]? = some (itN u nn a)) (e : ∀ k, k < nn → a k = a' k) : RS w wr R c ja jcap js (its.set j (itN u nn a')) v n f := by
  have h0 := h.ap j _ hj
  exact h.turn (h.ps.congrN hj e) (fun _ _ => rfl) (off_set h.ap (off_v rfl h0))
theorem RS.pushN {u u' : Value} {nn j : Nat} {x : Int} {a a' : Nat → Int} (h : RS w wr R c ja jcap js its v n f) (hj : its[j]? = some (itN u nn a)) (ho : w'.ownsRow w.heap.size 3 1 u' (nn + 1) (vals a nn ++ [.int .i64 x])) (e : ∀ k, k < nn → a k = a' k) (ex : a' nn = x) (hg : wr.grownBy w' u.ownBlock)
    (hp : u'.ownBlock = u.ownBlock ∨ u'.ownBlock = some wr.heap.size) : RS w w' R c ja jcap js (its.set j (itN u' (nn + 1) a')) v n f := by
  have h0 := h.ap j _ hj
  refine h.turn (h.ps.pushN hj ho e ex hg hp) (fun k hk => hg.block k (h.ublt hk) (fun e => off_ne h0 e.symm hk rfl)) (off_set h.ap ?_)
  have hR := h.R_lt
  have hc := h.cR
  rcases hp with e1 | e1
  · refine ⟨?_, ?_, fun k hk => ?_⟩
    · show u'.ownBlock ≠ _
      rw [e1]; exact h0.1
    · show u'.ownBlock ≠ _
      rw [e1]; exact h0.2.1
    · exact h0.2.2 k (e1 ▸ hk)
  · refine ⟨?_, ?_, fun k hk hv => ?_⟩
    · show u'.ownBlock ≠ _
      rw [e1]; intro e2; simp only [Option.some.injEq] at e2; omega
    · show u'.ownBlock ≠ _
      rw [e1]; intro e2; simp only [Option.some.injEq] at e2; omega
    · have hk' : u'.ownBlock = some k := hk
      rw [e1] at hk'
      simp only [Option.some.injEq] at hk'
      have := (h.own.lt k hv).2
      omega
/-- The last number goes. -/
theorem RS.popN {g j cap m : Nat} {a : Nat → Int} (h : RS w wr R c ja jcap js its v n f) (hj : its[j]? = some (itN (.slice (some ⟨g, 0, none⟩) (m + 1) cap) (m + 1) a)) : RS w wr R c ja jcap js (its.set j (itN (.slice (some ⟨g, 0, none⟩) m cap) m a)) v n f := by
  have h0 := h.ap j _ hj
  have ha : ∀ k b, k ≠ j → its[k]? = some b → Apart b.v (.slice (some ⟨g, 0, none⟩) (m + 1) cap) := fun k b hk hb => h.ps.pl.ap k j b _ hk hb hj
  exact h.turn ⟨h.ps.be, h.ps.pl.turn (i' := itN (.slice (some ⟨g, 0, none⟩) m cap) m a) hj (ownN_F (h.ps.getN hj).shrink) (fun k b _ hb => h.ps.pl.ow k b hb) (fun k b hk hb l h1 h2 => ha k b hk hb l h1 h2)⟩ (fun _ _ => rfl) (off_set h.ap h0)
/-- The heap as the methods of readyJobs know it. -/
theorem RS.hs (h : RS w wr R c ja jcap js its v n f) : HS (trunc wr R) R (cbV c) js.length wr v n f := by
  have hR := Nat.le_of_lt h.R_lt
  have e := trunc_size hR
  refine ⟨?_, by rw [e]; exact Nat.le_refl _, h.c0, h.c1, h.f0, ?_, fun e2 => ?_, h.lt⟩
  · rw [e]; exact trunc_below hR
  · rw [e]; exact h.own.mono (Nat.le_succ _)
  · have := (h.own.lt R e2).1
    omega
theorem RS.cmp (h : RS w wr R c ja jcap js its v n f) (hj : RowJ w ja js) (hn : js.length ≤ 60) (hky : ∀ k, k < js.length → (jb js k).2.2.1 = ((jdl js k : Nat) : Int)) : Cmp (trunc wr R) (cbV c) ja jcap js (edfK js) := by
  have hR := Nat.le_of_lt h.R_lt
  have e := trunc_size hR
  refine ⟨hj.below (below_trunc h.ps.be h.ge hR), .inl ⟨c, rfl, fun W x y hB hx hy => ?_⟩⟩
  rw [e] at hB
  have hcell : W.cell? ⟨c, 0, none⟩ = some (.slice ja js.length jcap) :=
    (World.cell?_of_block (a := ⟨c, 0, none⟩) ((hB.block c h.cR).trans (trunc_block hR h.cR))).trans h.cc
  have hrow : RowJ W ja js := hj.below ((below_trunc h.ps.be h.ge hR).trans (hB.mono h.ge))
  refine (before_any c ja jcap js x y W hcell hrow hx hy).mono ?_
  rintro e w' ⟨rfl, hb⟩
  refine ⟨ret_bool (decide_eq_decide.2 ?_), hb⟩
  have e1 := hky x hx
  have e2 := hky y hy
  rw [edfK_lt hn hx hy, e1, e2]
  omega
/-- What an operation on the heap leaves. -/
theorem RS.heap {v' : Value} {n' : Nat} {f' : Nat → Nat} (h : RS w wr R c ja jcap js its v n f) (hh : HS (trunc wr R) R (cbV c) js.length w' v' n' f') (hc : Chg R v.ownBlock wr w') (hp : v'.ownBlock = v.ownBlock ∨ ∃ k, v'.ownBlock = some k ∧ wr.heap.size ≤ k) : RS w w' R c ja jcap js its v' n' f' := by
  have hR := h.R_lt
  have hcR := h.cR
  have hvb : ∀ k, v.ownBlock = some k → R + 1 ≤ k := fun k hk => (h.own.lt k hk).1
  refine ⟨⟨hc.below h.ge (fun x hx => by have := hvb x hx; have := h.ge; omega) h.ps.be.size |> h.ps.be.trans, ⟨fun j i hj => (h.ps.pl.ow j i hj).of_block fun k hk => hc.block k ((h.ps.pl.lt hj k hk).2) (fun e => (h.ap j i hj).1 (e ▸ hk)) (fun e => (h.ap j i hj).2.2 k hk e.symm), h.ps.pl.ap⟩⟩, h.cR, h.ge, hh.c0, hh.c1, hh.f0, ?_, ?_, ?_, hh.lt⟩
  · refine (World.cell?_of_block (a := ⟨c, 0, none⟩) (hc.block c (by omega) (by show c ≠ R; omega) (fun e => ?_))).trans h.cc
    have := hvb c e.symm
    omega
  · refine hh.own.rebase fun k hk => ?_
    rcases hp with e | ⟨q, e, hq⟩
    · exact hvb k (e ▸ hk)
    · rw [e] at hk
      simp only [Option.some.injEq] at hk
      omega
  · intro j i hj
    have h0 := h.ap j i hj
    refine ⟨h0.1, h0.2.1, fun k hk hv => ?_⟩
    rcases hp with e | ⟨q, e, hq⟩
    · exact h0.2.2 k hk (e ▸ hv)
    · rw [e] at hv
      simp only [Option.some.injEq] at hv
      have := (h.ps.pl.lt hj k hk).2
      omega

end Go.Proofs.Ytlagghoohloklaa

namespace Go.Proofs.Ytlagghoohloklaa
open Go.RowKit Go.Deep

/-- Does the section cover the next tick? -/
def cvB (a b d : Nat) : Bool := decide (a ≤ d ∧ d < a + b)
/-- impl.Section.covers. -/
theorem covers_any (a b r d : Nat) (w : World) (ha : a ≤ 1000) (hb : b ≤ 1000) :
    Calls Try.prog 98 #[.agg #[.int .i64 (a : Int), .int .i64 (b : Int), .int .i64 (r : Int)], .int .i64 (d : Int)] w fun e w' =>
      e = .returned (.bool (cvB a b d)) ∧ Below w.heap.size w w' := by
  go_enter Try.func98, Try.ntmps98
  go_wp2
  all_goals (go_ret; exact ⟨ret_bool (by simp only [cvB]; rw [eq_comm]; first | (apply decide_eq_decide.2; omega) | (apply decide_eq_false; omega) | (apply decide_eq_true; omega)), below_box _ _⟩)

/-- impl.stack.top. -/
theorem top_any (g m cap : Nat) (x : Int) (w : World) (hm : m ≤ 1000) (hx : w.cell? ⟨g, m, none⟩ = some (.int .i64 x)) :
    Calls Try.prog 97 #[.slice (some ⟨g, 0, none⟩) (m + 1) cap] w fun e w' => e = .returned (.int .i64 x) ∧ w = w' := by
  have hm0 : (0 : Int) ≤ m := by omega
  have hm1 : (m : Int) < (m : Int) + 1 := by omega
  go_enter Try.func97, Try.ntmps97
  go_wp2
  go_ret
  exact ⟨rfl, rfl⟩

variable {w wr w' : World} {R c : Nat} {ja : Option Addr} {jcap : Nat} {js : List J4} {its its' : List It} {v : Value} {n : Nat} {f : Nat → Nat}
theorem stackInfo : Try.prog.underlying 77 = some (.slice 3) := by kernel_rfl

set_option maxRecDepth 100000 in
/-- impl.stack.push. -/
theorem stPush_any {t : TypeId} {nn S o i j m : Nat} {F : Nat → Value} {F' : Value → Nat → Value} {u : Value} {a a' : Nat → Int} {x : Int} (h : RS w wr R c ja jcap js its v n f) (hi : its[i]? = some (itB t nn S F)) (ho : o < nn) (hF : F o = u) (hij : i ≠ j) (hj : its[j]? = some (itN u m a)) (hm : m ≤ 1000)
    (e : ∀ k, k < m → a k = a' k) (ex : a' m = x) (hF' : ∀ u' k, k < nn → (if k = o then u' else F k) = F' u' k) :
    Calls Try.prog 95 #[.pointer (some ⟨S, o, none⟩), .int .i64 x] wr fun e w' =>
      e = .returned (.tuple #[]) ∧ ∃ u', RS w w' R c ja jcap js ((its.set j (itN u' (m + 1) a')).set i (itB t nn S (F' u'))) v n f := by
  obtain ⟨iI, hi1, hz, hsz, hby⟩ := info_parts intInfo
  have HI := Lib.hid (And.intro hi1 (And.intro hz (And.intro hsz hby)))
  clear hi1 hz hsz hby
  obtain ⟨ua, ucap, rfl⟩ := own_shape (h.ps.getN hj)
  have c0 := (h.ps.cell hi o ho).trans (congrArg some hF)
  have HH := Lib.hid h
  have HX := Lib.hid (And.intro hi (And.intro hj (And.intro e (And.intro ex hF'))))
  clear h hi hj e ex hF'
  go_enter Try.func95, Try.ntmps95
  go_wp2_with (at_builtin; refine wpList_append_at _ rfl (.tmp 7) (.tmp 9) 77 rfl w.heap.size 3 iI _ 1 8 stackInfo HI.out.1 HI.out.2.1 HI.out.2.2.1 HI.out.2.2.2 rfl (by decide) _ m (vals a m) rfl ((HH.out.alloc _).ps.getN HX.out.2.1) ⟨wr.heap.size, 0, none⟩ 1 1 [.int .i64 x] rfl rfl (news1 _ _ _) (one1 _) (by unfold maxLen; omega) (by omega) (HH.out.alloc _).ps.sz (by decide) ?_; intro v1 u1 ho1 hg1 hp1 hn1; have L2 := Lib.hid ((HH.out.alloc _).pushN HX.out.2.1 ho1 HX.out.2.2.1 HX.out.2.2.2.1 hg1 hp1); have hi2 : (its.set j (itN v1 (m + 1) a'))[i]? = some (itB t nn S F) := (by rw [List.getElem?_set, if_neg (fun e => hij e.symm)]; exact HX.out.1); have L3 := Lib.hid (L2.out.st hi2 o ho v1 (HX.out.2.2.2.2 v1)); have y2 := L2.out.ps.frz hi2 o; have y3 := L2.out.ps.cell hi2 o ho; have y4 := (L2.out.ps.lt hi2).2; obtain ⟨a1, c1, rfl⟩ := own_shape ho1; clear ho1 hg1 hp1 hn1 hi2)
  go_end0
  exact ⟨rfl, _, L3.out⟩

set_option maxRecDepth 100000 in
set_option maxHeartbeats 2000000 in
/-- impl.stack.pop. -/
theorem stPop_any {t : TypeId} {nn S o i j m g cap : Nat} {F F' : Nat → Value} {a : Nat → Int} (h : RS w wr R c ja jcap js its v n f) (hi : its[i]? = some (itB t nn S F)) (ho : o < nn) (hF : F o = .slice (some ⟨g, 0, none⟩) (m + 1) cap) (hij : i ≠ j) (hj : its[j]? = some (itN (.slice (some ⟨g, 0, none⟩) (m + 1) cap) (m + 1) a)) (hm : m ≤ 1000)
    (hF' : ∀ k, k < nn → (if k = o then .slice (some ⟨g, 0, none⟩) m cap else F k) = F' k) :
    Calls Try.prog 99 #[.pointer (some ⟨S, o, none⟩)] wr fun e w' =>
      e = .returned (.tuple #[]) ∧ RS w w' R c ja jcap js ((its.set j (itN (.slice (some ⟨g, 0, none⟩) m cap) m a)).set i (itB t nn S F')) v n f := by
  have c0 := (h.ps.cell hi o ho).trans (congrArg some hF)
  have y2 := h.ps.frz hi o
  have y4 := (h.ps.lt hi).2
  have hcap : m + 1 ≤ cap := by
    obtain ⟨_, _, e, _, _, h5, _⟩ := (h.ps.getN hj).at (Nat.succ_pos m)
    simp only [Value.slice.injEq] at e
    rw [e.2.2]
    exact h5
  have hi2 : (its.set j (itN (.slice (some ⟨g, 0, none⟩) m cap) m a))[i]? = some (itB t nn S F) := by rw [List.getElem?_set, if_neg (fun e => hij e.symm)]; exact hi
  have L := Lib.hid ((h.popN hj).st hi2 o ho (.slice (some ⟨g, 0, none⟩) m cap) hF')
  clear h hi hj hF' hi2
  have hm0 : (0 : Int) ≤ m := by omega
  have hm1 : (m : Int) < (m : Int) + 1 := by omega
  go_enter Try.func99, Try.ntmps99
  go_wp2
  go_region
  all_goals (go_end0; exact ⟨rfl, L.out.below (below_drewN _ 1)⟩)

end Go.Proofs.Ytlagghoohloklaa

namespace Go.Proofs.Ytlagghoohloklaa
open Go.RowKit Go.Deep

/-- What does not change: the arguments; where the slices, the struct, the heap and the comparison lie. -/
structure RX where
  a : Option Addr
  cap : Nat
  sa : Option Addr
  scap : Nat
  ja : Option Addr
  jcap : Nat
  gc : Nat
  cc : Nat
  gd : Nat
  gr : Nat
  cr : Nat
  fa : Option Addr
  fc : Nat
  R : Nat
  c : Nat
  B : Nat
/-- The struct's cells. -/
def RX.F (X : RX) (nt nS n : Nat) (nx : Nat) (vst vh : Value) : Nat → Value
  | 0 => .slice X.a nt X.cap
  | 1 => .slice X.sa nS X.scap
  | 2 => .slice X.ja n X.jcap
  | 3 => .slice (some ⟨X.gc, 0, none⟩) 3 X.cc
  | 4 => .int .i64 (nx : Int)
  | 5 => .pointer (some ⟨X.R, 0, none⟩)
  | 6 => vst
  | 7 => vh
  | 8 => .slice (some ⟨X.gd, 0, none⟩) n n
  | 9 => .slice (some ⟨X.gr, 0, none⟩) 120 X.cr
  | _ => .slice X.fa n X.fc
def RX.its (X : RX) (ts ss : List T3) (n nt nS nx : Nat) (fd fr ff : Nat → Int) (vst : Value) (ns : Nat) (fs : Nat → Int) (vh : Value) (nh : Nat) (fh : Nat → Int) : List It :=
  [itB 79 11 X.B (X.F nt nS n nx vst vh), itN (.slice (some ⟨X.gc, 0, none⟩) 3 X.cc) 3 (fun r => (ce ts ss r : Nat)), itN (.slice (some ⟨X.gd, 0, none⟩) n n) n fd, itN (.slice (some ⟨X.gr, 0, none⟩) 120 X.cr) 120 fr,
    itN (.slice X.fa n X.fc) n ff, itN vst ns fs, itN vh nh fh]
def cN (f : Nat → Nat) : Nat → Int := fun k => ((f k : Nat) : Int)
/-- The simulation under way. -/
def Sim (w : World) (X : RX) (ts ss : List T3) (js : List J4) (wr : World) (nx : Nat) (fd fr ff : Nat → Int) (vst : Value) (ns : Nat) (fs : Nat → Nat) (vh : Value) (nh : Nat) (fh : Nat → Nat) (v : Value) (m : Nat) (f : Nat → Nat) : Prop :=
  RS w wr X.R X.c X.ja X.jcap js (X.its ts ss js.length ts.length ss.length nx fd fr ff vst ns (cN fs) vh nh (cN fh)) v m f
variable {w wr w' : World} {X : RX} {ts ss : List T3} {js : List J4} {nx : Nat} {fd fr ff : Nat → Int} {vst : Value} {ns : Nat} {fs : Nat → Nat} {vh : Value} {nh : Nat} {fh : Nat → Nat} {v : Value} {m : Nat} {f : Nat → Nat}

/-- impl.resourceRun.smallestCeiling. -/
theorem smallest_any (h : Sim w X ts ss js wr nx fd fr ff vst ns fs vh nh fh v m f) (hn : nh ≤ 1000) (hr : ∀ k, k < nh → fh k < 3) :
    Calls Try.prog 116 #[.pointer (some ⟨X.B, 0, none⟩)] wr fun e w' => e = .returned (.int .i64 ((srpP ts ss js).lid (stk fh nh) : Nat)) ∧ ∃ q, w' = wr.drewN q := by
  obtain ⟨va, vcap, rfl⟩ := own_shape (h.ps.getN (j := 6) rfl)
  have c3 := h.ps.cell (j := 0) rfl 3 (by decide)
  have c7 := h.ps.cell (j := 0) rfl 7 (by decide)
  simp only [RX.F] at c3 c7
  have HH := Lib.hid h
  clear h
  obtain ⟨B, hB⟩ : ∃ B, B = X.B := ⟨_, rfl⟩
  obtain ⟨gc, hgc⟩ : ∃ gc, gc = X.gc := ⟨_, rfl⟩
  obtain ⟨cc, hcc⟩ : ∃ cc, cc = X.cc := ⟨_, rfl⟩
  rw [← hB] at c3 c7 ⊢
  rw [← hgc, ← hcc] at c3
  cases nh with
  | zero =>
    clear hB hgc hcc
    go_enter Try.func116, Try.ntmps116
    go_wp2
    go_ret
    exact ⟨rfl, 0, rfl⟩
  | succ k =>
    obtain ⟨g, rfl⟩ := own_some' (HH.out.ps.getN (j := 6) rfl) (by omega)
    have x0 := (HH.out.ps.atN (j := 6) (k := k) rfl (by omega)).1
    have y0 := (HH.out.ps.atN (j := 1) (k := fh k) rfl (hr k (by omega))).1
    rw [← hgc] at y0
    unfold cN at x0
    have HX := Lib.hid x0
    have HL := Lib.hid (show (srpP ts ss js).lid (stk fh (k + 1)) = ce ts ss (fh k) from rfl)
    have hf3 : ((fh k : Nat) : Int) < 3 := by have := hr k (by omega); omega
    obtain ⟨y, hy⟩ : ∃ y, y = fh k := ⟨_, rfl⟩
    rw [← hy] at y0 hf3 HX HL
    clear hB hgc hcc hy x0
    go_enter Try.func116, Try.ntmps116
    go_wp2
    go_quiet ((go_at_call 97; exact quiet_left (top_any g k _ (y : Int) _ (by omega) HX.out)))
    go_wp2
    go_ret
    exact ⟨ret_int (by rw [HL.out]), _, rfl⟩

theorem RS.bef {its : List It} (h : RS w wr X.R X.c X.ja X.jcap js its v m f) (hj : RowJ w X.ja js) (hl : legB ts js = true) {x y : Nat} (hx : x < js.length) (hy : y < js.length) :
    Calls Try.prog 108 #[.int .i64 (x : Int), .int .i64 (y : Int), .pointer (some ⟨X.c, 0, none⟩)] wr fun e w' => e = .returned (.bool (decide (edfK js x < edfK js y))) ∧ Below wr.heap.size wr w' := by
  refine (before_any X.c X.ja X.jcap js x y wr h.cc (hj.below h.ps.be) hx hy).mono ?_
  rintro e w' ⟨rfl, hb⟩
  refine ⟨ret_bool (decide_eq_decide.2 ?_), hb⟩
  have hky := (leg_fits hl).2.2
  have e1 : (jb js x).2.2.1 = ((jdl js x : Nat) : Int) := hky x hx
  have e2 : (jb js y).2.2.1 = ((jdl js y : Nat) : Int) := hky y hy
  rw [edfK_lt (legB_iff.1 hl).2.1 hx hy, e1, e2]
  omega
/-- May the job start? -/
def myB (ts ss : List T3) (js : List J4) (x ns : Nat) (fs : Nat → Nat) (nh : Nat) (fh : Nat → Nat) : Bool := decide ((0 < ns → edfK js x < edfK js (fs (ns - 1))) ∧ tdl ts (jid js x) < (srpP ts ss js).lid (stk fh nh))

set_option maxRecDepth 100000 in
set_option maxHeartbeats 2000000 in
/-- impl.resourceRun.mayStart. -/
theorem mayStart_any (h : Sim w X ts ss js wr nx fd fr ff vst ns fs vh nh fh v m f) (hT : Row w X.a ts) (hj : RowJ w X.ja js) (hl : legB ts js = true) (hn : nh ≤ 1000) (hr : ∀ k, k < nh → fh k < 3) (hns : ns ≤ 1000) (hs : ∀ k, k < ns → fs k < js.length) {x : Nat} (hx : x < js.length) :
    Calls Try.prog 93 #[.pointer (some ⟨X.B, 0, none⟩), .int .i64 (x : Int)] wr fun e w' => e = .returned (.bool (myB ts ss js x ns fs nh fh)) ∧ Below wr.heap.size wr w' := by
  obtain ⟨a, cap, sa, scap, ja, jcap, gc, cc, gd, gr, cr, fa, fc, R, c, B⟩ := X
  obtain ⟨va, vcap, rfl⟩ := own_shape (h.ps.getN (j := 5) rfl)
  simp only at *
  have hnat := leg_nat hl hx
  have hi1 : jid js x < ts.length := hnat.1
  have SM := Lib.hid (fun W (hB : Below wr.heap.size wr W) => smallest_any (w := w) (wr := W) (h.below hB) hn hr)
  have CELLS := Lib.hid (fun W (hB : Below wr.heap.size wr W) => show W.cell? ⟨B, 0, none⟩ = some (.slice a ts.length cap) ∧ W.cell? ⟨B, 2, none⟩ = some (.slice ja js.length jcap) from ⟨(h.below hB).ps.cell (j := 0) rfl 0 (by decide), (h.below hB).ps.cell (j := 0) rfl 2 (by decide)⟩)
  have ROWS := Lib.hid (fun W (hB : Below wr.heap.size wr W) => And.intro ((hT.below (h.below hB).ps.be).tk hi1) ((hj.below (h.below hB).ps.be) x hx))
  have HT3 : (tk ts (jid js x)).2.1 = (tdl ts (jid js x) : Nat) := by have := tv_bd (tk_sv (legB_iff.1 hl).1 hi1); unfold tdl; omega
  have HTD := Lib.hid (And.intro HT3 hnat.2.2.2.2.2.1)
  have c6 := h.ps.cell (j := 0) rfl 6 (by decide)
  simp only [RX.F] at c6
  have HH := Lib.hid h
  have HJ := Lib.hid hj
  have HL := Lib.hid hl
  have FIN := Lib.hid (show ∀ (b : Bool), (b = decide (0 < ns → edfK js x < edfK js (fs (ns - 1)))) → (b && decide (tdl ts (jid js x) < (srpP ts ss js).lid (stk fh nh))) = myB ts ss js x ns fs nh fh from fun b hb => by
    rw [hb]; unfold myB; rw [Bool.decide_and])
  simp only at SM
  clear h hnat hT HT3 hj hl
  have hx0 : (0 : Int) ≤ x := by omega
  have hx1 : (x : Int) < js.length := by omega
  cases ns with
  | zero =>
    have F1 := Lib.hid (FIN.out true (by rw [eq_comm]; exact decide_eq_true (fun h => absurd h (Nat.lt_irrefl 0))))
    clear FIN
    go_enter Try.func93, Try.ntmps93
    go_wp2
    go_quiet (fail)
    obtain ⟨W, hW⟩ : ∃ W, W = wr.drewN nq := ⟨_, rfl⟩
    have HBW := Lib.hid (show Below wr.heap.size wr W by rw [hW]; exact below_drewN _ _)
    rw [← hW]
    clear hW c6
    obtain ⟨d0, d2⟩ := CELLS.out W HBW.out
    obtain ⟨⟨bt, ot, rfl, hbt, -, y1, -⟩, bj, oj, rfl, hbj, x0, -⟩ := ROWS.out W HBW.out
    rw [HTD.out.1] at y1
    rw [HTD.out.2] at x0
    have SMW := Lib.hid (fun q => SM.out (W.drewN q) (below_drewN' HBW.out q))
    obtain ⟨I, hI⟩ : ∃ I, I = jid js x := ⟨_, rfl⟩
    rw [← hI] at y1 x0 hi1 F1
    obtain ⟨D, hD⟩ : ∃ D, D = tdl ts I := ⟨_, rfl⟩
    rw [← hD] at y1 F1
    obtain ⟨LL, hLL⟩ : ∃ LL, LL = (srpP ts ss js).lid (stk fh nh) := ⟨_, rfl⟩
    rw [← hLL] at SMW F1
    have hI0 : (0 : Int) ≤ I := by omega
    have hI1 : (I : Int) < ts.length := by omega
    have F2 := Lib.hid (show myB ts ss js x _ fs nh fh = decide (D < LL) by rw [← F1.out, Bool.true_and])
    clear hI hD hLL HTD ROWS CELLS SM F1
    go_wp2
    go_quiet ((go_at_call 116; exact Calls.quiet_of (SMW.out _)))
    go_wp2
    all_goals (go_ret; exact ⟨ret_bool (by first | exact F2.out.symm | (rw [F2.out, eq_comm]; first | (apply decide_eq_decide.2; omega) | (apply decide_eq_true; omega) | (apply decide_eq_false; omega) | simp)), below_drewN' HBW.out _⟩)
  | succ k =>
    obtain ⟨g, rfl⟩ := own_some' (HH.out.ps.getN (j := 5) rfl) (by omega)
    have t0 := (HH.out.ps.atN (j := 5) (k := k) rfl (by omega)).1
    unfold cN at t0
    have c5 := HH.out.ps.cell (j := 0) rfl 5 (by decide)
    simp only [RX.F] at c5
    have r1 := HH.out.c1
    simp only at r1
    unfold cbV at r1
    have hgg : g < wr.heap.size := (HH.out.ps.atN (j := 5) (k := k) rfl (by omega)).2.2.1
    have CB := Lib.hid (RS.bef (X := ⟨a, cap, sa, scap, ja, jcap, gc, cc, gd, gr, cr, fa, fc, R, c, B⟩) (HH.out.below (Below.refl wr.heap.size wr).drew) HJ.out HL.out hx (hs k (by omega)))
    simp only at CB
    have T0 := Lib.hid (show wr.drew.cell? ⟨g, k, none⟩ = some (.int .i64 ((fs k : Nat) : Int)) from t0)
    obtain ⟨y, hy⟩ : ∃ y, y = fs k := ⟨_, rfl⟩
    rw [← hy] at CB T0
    have FIN2 := Lib.hid (show ∀ b : Bool, b = decide (edfK js x < edfK js y) → (b && decide (tdl ts (jid js x) < (srpP ts ss js).lid (stk fh nh))) = myB ts ss js x (k + 1) fs nh fh from fun b hb => FIN.out b (by
      rw [hb, hy]
      exact decide_eq_decide.2 ⟨fun h _ => h, fun h => h (Nat.succ_pos k)⟩))
    clear FIN t0 hy
    go_enter Try.func93, Try.ntmps93
    go_wp2
    refine wp_region_still_tail 20 (by kernel_rfl) (by kernel_rfl) ?_
    simp only [List.take_succ_cons, List.take_zero, List.drop_succ_cons, List.drop_zero]
    change wpStill _ _ wr.drew (fun a' => wpList _ _ _ _ a' wr.drew) _ _
    iterate 19 still_step
    still_call ((top_any g k vcap (y : Int) _ (by omega) T0.out).mono fun _ _ h => ⟨h.1, h.2.symm⟩)
    refine wpStill_nil ?_
    go_wp2_with fail
    refine CB.out.mono ?_
    rintro e W ⟨rfl, b1⟩
    have HBW := Lib.hid ((Below.refl wr.heap.size wr).drew.trans b1)
    clear b1 CB T0 c5 c6 r1
    cases hb : decide (edfK js x < edfK js y) with
    | false =>
      have F3 := Lib.hid (show myB ts ss js x (k + 1) fs nh fh = false by rw [← FIN2.out false hb.symm, Bool.false_and])
      clear hb FIN2
      go_wp2
      go_ret
      exact ⟨ret_bool F3.out.symm, HBW.out⟩
    | true =>
      have F1 := Lib.hid (FIN2.out true hb.symm)
      clear hb FIN2
      go_wp2
      obtain ⟨d0, d2⟩ := CELLS.out W HBW.out
      obtain ⟨⟨bt, ot, rfl, hbt, -, y1, -⟩, bj, oj, rfl, hbj, x0, -⟩ := ROWS.out W HBW.out
      rw [HTD.out.1] at y1
      rw [HTD.out.2] at x0
      have SMW := Lib.hid (fun q => SM.out (W.drewN q) (below_drewN' HBW.out q))
      obtain ⟨I, hI⟩ : ∃ I, I = jid js x := ⟨_, rfl⟩
      rw [← hI] at y1 x0 hi1 F1
      obtain ⟨D, hD⟩ : ∃ D, D = tdl ts I := ⟨_, rfl⟩
      rw [← hD] at y1 F1
      obtain ⟨LL, hLL⟩ : ∃ LL, LL = (srpP ts ss js).lid (stk fh nh) := ⟨_, rfl⟩
      rw [← hLL] at SMW F1
      have hI0 : (0 : Int) ≤ I := by omega
      have hI1 : (I : Int) < ts.length := by omega
      have F2 := Lib.hid (show myB ts ss js x _ fs nh fh = decide (D < LL) by rw [← F1.out, Bool.true_and])
      clear hI hD hLL HTD ROWS CELLS SM F1
      go_quiet ((go_at_call 116; exact Calls.quiet_of (SMW.out _)))
      go_wp2
      all_goals (go_ret; exact ⟨ret_bool (by first | exact F2.out.symm | (rw [F2.out, eq_comm]; first | (apply decide_eq_decide.2; omega) | (apply decide_eq_true; omega) | (apply decide_eq_false; omega) | simp)), below_drewN' HBW.out _⟩)

end Go.Proofs.Ytlagghoohloklaa

namespace Go.Proofs.Ytlagghoohloklaa
open Go.RowKit Go.Deep
variable {w wr w' : World} {X : RX} {ts ss : List T3} {js : List J4} {nx : Nat} {fd fr ff : Nat → Int} {vst : Value} {ns : Nat} {fs : Nat → Nat} {vh : Value} {nh : Nat} {fh : Nat → Nat} {v : Value} {m : Nat} {f : Nat → Nat}

theorem RX.F4 (X : RX) (nt nS n nx nx' : Nat) (vst vh : Value) (k : Nat) (hk : k < 11) : (if k = 4 then .int .i64 ((nx' : Nat) : Int) else X.F nt nS n nx vst vh k) = X.F nt nS n nx' vst vh k := by
  match k, hk with
  | 0, _ | 1, _ | 2, _ | 3, _ | 4, _ | 5, _ | 6, _ | 7, _ | 8, _ | 9, _ | 10, _ => rfl
theorem RX.F6 (X : RX) (nt nS n nx : Nat) (vst vh : Value) (u : Value) (k : Nat) (hk : k < 11) : (if k = 6 then u else X.F nt nS n nx vst vh k) = X.F nt nS n nx u vh k := by
  match k, hk with
  | 0, _ | 1, _ | 2, _ | 3, _ | 4, _ | 5, _ | 6, _ | 7, _ | 8, _ | 9, _ | 10, _ => rfl
theorem RX.F7 (X : RX) (nt nS n nx : Nat) (vst vh : Value) (u : Value) (k : Nat) (hk : k < 11) : (if k = 7 then u else X.F nt nS n nx vst vh k) = X.F nt nS n nx vst u k := by
  match k, hk with
  | 0, _ | 1, _ | 2, _ | 3, _ | 4, _ | 5, _ | 6, _ | 7, _ | 8, _ | 9, _ | 10, _ => rfl
/-- What the arguments are, where the simulation began. -/
structure Arg (w : World) (X : RX) (ts ss : List T3) (js : List J4) : Prop where
  t : Row w X.a ts
  s : Row w X.sa ss
  j : RowJ w X.ja js
  ok : okR ts ss js = true

set_option maxRecDepth 100000 in
set_option maxHeartbeats 2000000 in
/-- impl.resourceRun.release. -/
theorem release_any (hA : Arg w X ts ss js) {t : Nat} (h : Sim w X ts ss js wr nx fd fr ff vst ns fs vh nh fh v m f) (hW : Wt (srpP ts ss js) (edfK js) t nx m f) :
    Calls Try.prog 49 #[.pointer (some ⟨X.B, 0, none⟩), .int .i64 (t : Int)] wr fun e w' =>
      e = .returned (.tuple #[]) ∧ ∃ nx' v' m' f', Sim w X ts ss js w' nx' fd fr ff vst ns fs vh nh fh v' m' f' ∧ Wt (srpP ts ss js) (edfK js) t nx' m' f' ∧ (srpP ts ss js).All t nx' := by
  obtain ⟨a, cap, sa, scap, ja, jcap, gc, cc, gd, gr, cr, fa, fc, R, c, B⟩ := X
  have HA := Lib.hid hA
  have HLEG := Lib.hid (okR_iff.1 hA.ok).2
  have h60 := (legB_iff.1 (okR_iff.1 hA.ok).2).2.1
  have HH := Lib.hid h
  have HW := Lib.hid hW
  clear hA h hW
  simp only
  go_enter Try.func49, Try.ntmps49
  go_wp2
  go_loopg [] (js.length - nx) (fun q wr => ∃ (nx : Nat) (v : Value) (m : Nat) (f : Nat → Nat), q = js.length - nx ∧ Sim w ⟨a, cap, sa, scap, ja, jcap, gc, cc, gd, gr, cr, fa, fc, R, c, B⟩ ts ss js wr nx fd fr ff vst ns fs vh nh fh v m f ∧ Wt (srpP ts ss js) (edfK js) t nx m f)
  case atStart => exact ⟨nx, v, m, f, rfl, HH.out, HW.out⟩
  case round =>
    clear HH HW
    obtain ⟨nx, v, m, f, hq, h, hW⟩ := hrel
    have HQ := Lib.hid hq
    have hle : nx ≤ js.length := hW.le
    have hm60 : m ≤ 60 := by have := hW.mle; omega
    have c4 := h.ps.cell (j := 0) rfl 4 (by decide)
    have c2 := h.ps.cell (j := 0) rfl 2 (by decide)
    have c5 := h.ps.cell (j := 0) rfl 5 (by decide)
    simp only [RX.F] at c4 c2 c5
    have HH := Lib.hid h
    have HW := Lib.hid hW
    clear hq h hW
    by_cases hlt : nx < js.length
    · have hn0 : (0 : Int) ≤ nx := by omega
      have hn1 : (nx : Int) < js.length := by omega
      have hn2 : decide ((nx : Int) < js.length) = true := decide_eq_true hn1
      have hnat := leg_nat HLEG.out hlt
      obtain ⟨bj, oj, rfl, hbj, -, x1, -⟩ := (HA.out.j.below HH.out.ps.be) nx hlt
      rw [hnat.2.2.2.2.2.2.1] at x1
      have hr119 := hnat.2.2.2.2.1
      obtain ⟨r, hr⟩ : ∃ r, r = jrel js nx := ⟨_, rfl⟩
      rw [← hr] at x1 hr119
      have HR := Lib.hid hr
      clear hnat hr
      by_cases he : r = t
      · have hq1 : (((r : Nat) : Int) == (t : Int)) = true := beq_iff_eq.2 (by omega)
        go_wp2
        go_quiet (fail)
        obtain ⟨W, hWW⟩ : ∃ W, W = wr.drewN nq := ⟨_, rfl⟩
        have HB := Lib.hid (show Below wr.heap.size wr W.drew by rw [hWW]; exact (below_drewN _ _).drew)
        have d5 : W.cell? ⟨B, 5, none⟩ = some (.pointer (some ⟨R, 0, none⟩)) := by rw [hWW]; exact c5
        have d4 : W.cell? ⟨B, 4, none⟩ = some (.int .i64 (nx : Int)) := by rw [hWW]; exact c4
        rw [← hWW]
        clear c4 c5 c2 x1 hWW
        go_wp2
        refine wp_region_still_tail 10 (by kernel_rfl) (by kernel_rfl) ?_
        simp only [List.take_succ_cons, List.take_zero, List.drop_succ_cons, List.drop_zero]
        change wpStill _ _ W.drew (fun a' => wpList _ _ _ _ a' W.drew) _ _
        iterate 10 still_step
        refine wpStill_nil ?_
        go_wp2_with fail
        have H2 := Lib.hid (HH.out.below HB.out)
        refine (heapPush_any (x := nx) (H2.out.cmp HA.out.j h60 (leg_fits HLEG.out).2.2) H2.out.hs hlt hm60 HW.out.ok).mono ?_
        rintro e w3 ⟨⟨ve, rfl⟩, v3, f3, h3, k3, m3, g3, p3⟩
        have H3 := Lib.hid (H2.out.heap h3 g3 p3)
        have W3 := Lib.hid (HW.out.push hlt (by show jrel js nx = t; rw [← HR.out]; exact he) m3 k3)
        clear h3 k3 m3 g3 p3
        have e4 := H3.out.ps.cell (j := 0) rfl 4 (by decide)
        have y4 := H3.out.ps.frz (j := 0) rfl 4
        have l4 := (H3.out.ps.lt (j := 0) rfl).2
        simp only [RX.F] at e4
        have H4 := Lib.hid (H3.out.st (j := 0) (F' := RX.F ⟨a, cap, sa, scap, some ⟨bj, oj, none⟩, jcap, gc, cc, gd, gr, cr, fa, fc, R, c, B⟩ ts.length ss.length js.length (nx + 1) vst vh) rfl 4 (by decide) (.int .i64 ((nx : Int) + 1)) (fun k hk => RX.F4 _ _ _ _ nx (nx + 1) vst vh k hk))
        clear HH H2 H3 HW
        go_wp2
        go_roundg (gk - 1)
        case measure => have := HQ.out; omega
        case rel => exact ⟨nx + 1, v3, m + 1, f3, by have := HQ.out; omega, H4.out, W3.out⟩
      · have hq1 : (((r : Nat) : Int) == (t : Int)) = false := beq_eq_false_iff_ne.2 (by omega)
        have HFU := Lib.hid (show (srpP ts ss js).All t nx from fun k hk hk' => by
          have h1 := HW.out.next nx (Nat.le_refl _) hlt
          have h2 := leg_rel HLEG.out hk hk'
          have h3 := HR.out
          show t < jrel js k
          have h4 : t ≤ jrel js nx := h1
          omega)
        go_wp2
        go_quiet (fail)
        go_wp2
        go_end0
        exact ⟨rfl, nx, v, m, f, HH.out.below (below_drewN _ _), HW.out, HFU.out⟩
    · have hn2 : decide ((nx : Int) < js.length) = false := decide_eq_false (by omega)
      have HFU := Lib.hid (show (srpP ts ss js).All t nx from fun k hk hk' => by
        have : k < js.length := hk'
        omega)
      go_wp2
      go_quiet (fail)
      go_wp2
      go_end0
      exact ⟨rfl, nx, v, m, f, HH.out.below (below_drewN _ _), HW.out, HFU.out⟩

/-- What the two stacks hold. -/
theorem Stk.fs_lt {S : Srp} {t : Nat} {L : List Nat} (h : Stk S t (stk fs ns) L) : ∀ k, k < ns → fs k < S.n := fun k hk => ((h.mem (fs k)).1 (stk_mem hk)).1
theorem hold_lt {S : Srp} {l : Nat → Nat} {L : List Nat} (h3 : ∀ i, i < S.n → S.res i < 3) (hL : ∀ x, x ∈ L → x < S.n) (e : stk fh nh = S.hold l L) : ∀ k, k < nh → fh k < 3 := fun k hk => by
  have h1 : fh k ∈ S.hold l L := e ▸ stk_mem hk
  unfold Srp.hold at h1
  obtain ⟨i, hi, e2⟩ := List.mem_map.1 h1
  rw [← e2]
  exact h3 i (hL i (List.mem_filter.1 hi).1)
theorem srp_res {ts ss : List T3} {js : List J4} (h : okR ts ss js = true) : ∀ i, i < (srpP ts ss js).n → (srpP ts ss js).res i < 3 := fun i hi => by
  have h1 := leg_nat (okR_iff.1 h).2 hi
  have h2 := sc_nat (okR_iff.1 h).1 h1.1
  show srs ss (jid js i) < 3
  omega
theorem srp_c13 (ts ss : List T3) (js : List J4) : ∀ i, i < (srpP ts ss js).n → 0 < (srpP ts ss js).ln i → (srpP ts ss js).ceil ((srpP ts ss js).res i) ≤ 13 := fun _ _ _ => ceN_13 ts ss _ _
theorem srp_K {ts ss : List T3} {js : List J4} (h : legB ts js = true) : ∀ x y, x < (srpP ts ss js).n → y < (srpP ts ss js).n → (edfK js x < edfK js y ↔ (srpP ts ss js).key x < (srpP ts ss js).key y ∨ ((srpP ts ss js).key x = (srpP ts ss js).key y ∧ x < y)) := fun _ _ hx hy => edfK_lt (legB_iff.1 h).2.1 hx hy
/-- Between the start and the tick: idle, or a job is on top. -/
def MidOk (S : Srp) (t ns : Nat) (fs : Nat → Nat) (nh : Nat) (fh : Nat → Nat) : Prop :=
  (ns = 0 ∧ S.gen.run t = none ∧ Stk S t [] (stk fh nh)) ∨ ∃ q, ns = q + 1 ∧ OnT S t (fs q) (stk fs q) (stk fh nh)
theorem stk_cons {a : Nat} {L0 : List Nat} : ∀ {ns : Nat}, stk fs ns = a :: L0 → ∃ q, ns = q + 1 ∧ fs q = a ∧ stk fs q = L0
  | 0, e => by simp [stk] at e
  | q + 1, e => by
    simp only [stk, List.cons.injEq] at e
    exact ⟨q, rfl, e.1, e.2⟩

set_option maxRecDepth 100000 in
set_option maxHeartbeats 2000000 in
/-- impl.resourceRun.startMostUrgent. -/
theorem start_any (hA : Arg w X ts ss js) {t : Nat} (ht : t < 120) (h : Sim w X ts ss js wr nx fd fr ff vst ns fs vh nh fh v m f) (hW : Wt (srpP ts ss js) (edfK js) t nx m f) (hF : (srpP ts ss js).All t nx) (hS : Stk (srpP ts ss js) t (stk fs ns) (stk fh nh)) (hns : ns ≤ t) (hnh : nh ≤ t) :
    Calls Try.prog 50 #[.pointer (some ⟨X.B, 0, none⟩)] wr fun e w' =>
      e = .returned (.tuple #[]) ∧ ∃ vst' ns' fs' v' m' f', Sim w X ts ss js w' nx fd fr ff vst' ns' fs' vh nh fh v' m' f' ∧ Wt (srpP ts ss js) (edfK js) (t + 1) nx m' f' ∧ MidOk (srpP ts ss js) t ns' fs' nh fh ∧ ns' ≤ t + 1 := by
  obtain ⟨a, cap, sa, scap, ja, jcap, gc, cc, gd, gr, cr, fa, fc, R, c, B⟩ := X
  have HA := Lib.hid hA
  have HOK := Lib.hid (srp_ok hA.ok)
  have HLEG := Lib.hid (okR_iff.1 hA.ok).2
  have h60 := (legB_iff.1 (okR_iff.1 hA.ok).2).2.1
  have HFS := Lib.hid hS.fs_lt
  have HFH := Lib.hid (hold_lt (srp_res hA.ok) (fun x hx => ((hS.mem x).1 hx).1) hS.hl)
  have hm60 : m ≤ 60 := by have h1 := hW.mle; have h2 : nx ≤ js.length := hW.le; omega
  have c5 := h.ps.cell (j := 0) rfl 5 (by decide)
  simp only [RX.F] at c5
  have HH := Lib.hid h
  have HW := Lib.hid hW
  have HF := Lib.hid hF
  have HS := Lib.hid hS
  clear hA h hW hF hS
  simp only
  cases m with
  | zero =>
    have HFIN := Lib.hid (show Wt (srpP ts ss js) (edfK js) (t + 1) nx 0 f ∧ MidOk (srpP ts ss js) t ns fs nh fh from by
      cases ns with
      | zero =>
        have hr := HW.out.none HS.out HF.out
        exact ⟨HW.out.later HF.out (fun k hk => absurd hk (Nat.not_lt_zero _)), .inl ⟨rfl, hr, HS.out⟩⟩
      | succ q =>
        have hr := HW.out.stay HS.out HF.out HOK.out (srp_c13 ts ss js) (srp_K HLEG.out) (fun h => absurd h (Nat.lt_irrefl 0))
        exact ⟨HW.out.later HF.out (fun k hk => absurd hk (Nat.not_lt_zero _)), .inr ⟨q, rfl, HS.out.mid hr⟩⟩)
    go_enter Try.func50, Try.ntmps50
    go_wp2_with fail
    refine (len_any HH.out.hs).mono ?_
    rintro e w1 ⟨rfl, rfl⟩
    go_wp2
    go_end0
    exact ⟨rfl, vst, ns, fs, v, 0, f, HH.out, HFIN.out.1, HFIN.out.2, by omega⟩
  | succ m =>
    have hx : f 0 < js.length := HH.out.lt 0 (Nat.succ_pos m)
    have MS := Lib.hid (mayStart_any HH.out HA.out.t HA.out.j HLEG.out (by omega) HFH.out (by omega) HFS.out hx)
    go_enter Try.func50, Try.ntmps50
    go_wp2_with fail
    refine (len_any HH.out.hs).mono ?_
    rintro e w1 ⟨rfl, rfl⟩
    go_wp2_with fail
    refine (first_any HH.out.hs (Nat.succ_pos m)).mono ?_
    rintro e w1 ⟨rfl, rfl⟩
    go_wp2_with fail
    refine MS.out.mono ?_
    rintro e w2 ⟨rfl, b2⟩
    have H2 := Lib.hid (HH.out.below b2)
    clear MS b2 c5
    cases hb : myB ts ss js (f 0) ns fs nh fh with
    | false =>
      have HFIN := Lib.hid (show Wt (srpP ts ss js) (edfK js) (t + 1) nx (m + 1) f ∧ MidOk (srpP ts ss js) t ns fs nh fh from by
        have hnb := of_decide_eq_false hb
        cases ns with
        | zero =>
          refine absurd ⟨fun h0 => absurd h0 (Nat.lt_irrefl 0), ?_⟩ hnb
          have e0 : stk fh nh = [] := HS.out.hl
          rw [e0]
          have h2 := HOK.out.rdl (f 0) hx
          show tdl ts (jid js (f 0)) < 13
          have h2' : tdl ts (jid js (f 0)) ≤ 12 := h2
          omega
        | succ q =>
          have hr := HW.out.stay HS.out HF.out HOK.out (srp_c13 ts ss js) (srp_K HLEG.out) (fun _ hk => by
            apply Classical.byContradiction
            intro hlt
            exact hnb ⟨fun _ => hk, Nat.lt_of_not_le hlt⟩)
          refine ⟨HW.out.later HF.out (fun k hk e => ?_), .inr ⟨q, rfl, HS.out.mid hr⟩⟩
          rw [hr] at e
          have h1 := ((HW.out.mem (f k)).1 ⟨k, hk, rfl⟩).2
          have h2 := ((HS.out.mem (fs q)).1 (by simp [stk])).2.2
          rw [Option.some.inj e] at h2
          omega)
      clear hb
      go_wp2
      go_end0
      exact ⟨rfl, vst, ns, fs, v, m + 1, f, H2.out, HFIN.out.1, HFIN.out.2, by omega⟩
    | true =>
      have HGO := Lib.hid (show (srpP ts ss js).gen.run t = some (f 0) ∧ ∀ x, x ∈ stk fs ns → (srpP ts ss js).Le (f 0) x ∧ f 0 ≠ x from by
        have hyb := of_decide_eq_true hb
        refine HW.out.go HS.out HF.out HOK.out (srp_c13 ts ss js) (srp_K HLEG.out) (Nat.succ_pos m) (fun a L0 e => ?_) hyb.2
        obtain ⟨q, rfl, rfl, _⟩ := stk_cons e
        exact hyb.1 (Nat.succ_pos q))
      have HL0 := Lib.hid ((HW.out.mem (f 0)).1 ⟨0, Nat.succ_pos m, rfl⟩).2
      clear hb
      have d5 := H2.out.ps.cell (j := 0) rfl 5 (by decide)
      simp only [RX.F] at d5
      have H3 := Lib.hid (H2.out.below (Below.refl w2.heap.size w2).drew)
      have D5 := Lib.hid d5
      go_wp2
      refine wp_region_still_tail 8 (by kernel_rfl) (by kernel_rfl) ?_
      simp only [List.take_succ_cons, List.take_zero, List.drop_succ_cons, List.drop_zero]
      change wpStill _ _ w2.drew (fun a' => wpList _ _ _ _ a' w2.drew) _ _
      iterate 7 still_step
      still_call ((first_any H3.out.hs (Nat.succ_pos m)).mono fun _ _ h => ⟨h.1, h.2.symm⟩)
      refine wpStill_nil ?_
      clear d5
      go_wp2_with fail
      refine (stPush_any (i := 0) (j := 5) (a' := cN (onTop fs ns (f 0))) (F' := fun u => RX.F ⟨a, cap, sa, scap, ja, jcap, gc, cc, gd, gr, cr, fa, fc, R, c, B⟩ ts.length ss.length js.length nx u vh) H3.out rfl (by decide) rfl (by decide) rfl (by omega) (fun k hk => by show ((fs k : Nat) : Int) = ((onTop fs ns (f 0) k : Nat) : Int); unfold onTop; rw [if_neg (by omega)]) (by show ((onTop fs ns (f 0) ns : Nat) : Int) = _; unfold onTop; rw [if_pos rfl]) (fun u k hk => RX.F6 _ _ _ _ _ _ _ u k hk)).mono ?_
      rintro e w3 ⟨rfl, u3, h3⟩
      have H4 := Lib.hid (show Sim w ⟨a, cap, sa, scap, ja, jcap, gc, cc, gd, gr, cr, fa, fc, R, c, B⟩ ts ss js w3 nx fd fr ff u3 (ns + 1) (onTop fs ns (f 0)) vh nh fh v (m + 1) f from h3)
      clear h3 H3 H2
      have d5 := H4.out.ps.cell (j := 0) rfl 5 (by decide)
      simp only [RX.F] at d5
      go_wp2_with fail
      refine (heapPop_any (H4.out.cmp HA.out.j h60 (leg_fits HLEG.out).2.2) H4.out.hs (by omega) HW.out.ok).mono ?_
      rintro e w5 ⟨⟨ve, rfl⟩, v5, f5, h5, k5, m5, g5, p5⟩
      have H5 := Lib.hid (H4.out.heap h5 g5 (.inl p5))
      have W5 := Lib.hid (HW.out.popped HF.out HGO.out.1 m5 k5)
      clear h5 k5 m5 g5 p5
      go_wp2
      go_end0
      refine ⟨rfl, u3, ns + 1, onTop fs ns (f 0), v5, m, f5, H5.out, W5.out, .inr ⟨ns, rfl, ?_⟩, by omega⟩
      rw [show onTop fs ns (f 0) ns = f 0 from if_pos rfl, stk_congr (f := onTop fs ns (f 0)) (g := fs) fun k hk => if_neg (by omega)]
      exact HS.out.mid_new HGO.out.1 HL0.out HGO.out.2

/-- What is in Run after t ticks. -/
def rnF (ts ss : List T3) (js : List J4) (t : Nat) : Nat → Int := fun k => if k < t then srpF ts ss js k else -1

end Go.Proofs.Ytlagghoohloklaa
