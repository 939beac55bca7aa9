/- Pools of blocks of one's own: structs and slices of numbers, each in a block of its own. No function is walked. No condition beyond those that each theorem names. -/
import Derived.Test.YtlagghoohloklaaOwnPool
import Derived.Test.YtlagghoohloklaaSrpAll
import Derived.Test.YtlagghoohloklaaRunAll
namespace Go.Proofs.Ytlagghoohloklaa
open Go.RowKit Go.Deep

def itN (v : Value) (n : Nat) (f : Nat → Int) : It := ⟨v, 3, 1, n, fun k => .int .i64 (f k)⟩
theorem vals_vN (f : Nat → Int) (n : Nat) : vals f n = vF (fun k => .int .i64 (f k)) n := rfl
theorem ownN_F {w : World} {base : Nat} {v : Value} {n : Nat} {f : Nat → Int} (h : OwnI w base v n f) : OwnF 3 1 w base v n (fun k => .int .i64 (f k)) := by
  unfold OwnF
  rw [Nat.mul_one, ← vals_vN]
  exact h
theorem ownF_N {w : World} {base : Nat} {v : Value} {n : Nat} {f : Nat → Int} (h : OwnF 3 1 w base v n (fun k => .int .i64 (f k))) : OwnI w base v n f := by
  unfold OwnF at h
  rw [Nat.mul_one, ← vals_vN] at h
  exact h
variable {w w' : World} {base j n : Nat} {its : List It} {v : Value} {f f' : Nat → Int}
theorem Pool.getN (h : Pool w base its) (hj : its[j]? = some (itN v n f)) : OwnI w base v n f := ownF_N (h.ow j _ hj)
theorem set_set {α : Type} (l : List α) (j : Nat) (a b : α) : (l.set j a).set j b = l.set j b := by rw [List.set_set]
theorem Pool.congrN (h : Pool w base its) (hj : its[j]? = some (itN v n f)) (e : ∀ k, k < n → f k = f' k) : Pool w base (its.set j (itN v n f')) :=
  h.congr (i := itN v n f) (G := fun k => .int .i64 (f' k)) hj fun k hk => by
    have hk' : k < n * 1 := hk
    show Value.int .i64 (f k) = .int .i64 (f' k)
    rw [e k (by omega)]
theorem Pool.setN {g cap m : Nat} {x : Int} (h : Pool w base its) (hj : its[j]? = some (itN (.slice (some ⟨g, 0, none⟩) n cap) n f)) (hm : m < n) (e : ∀ k, k < n → (if k = m then x else f k) = f' k) :
    Pool (w.setCell ⟨g, m, none⟩ (.int .i64 x)) base (its.set j (itN (.slice (some ⟨g, 0, none⟩) n cap) n f')) := by
  have hl : j < its.length := (List.getElem?_eq_some_iff.1 hj).1
  have h1 := h.set (i := itN (.slice (some ⟨g, 0, none⟩) n cap) n f) (g := g) (n := n) (cap := cap) (m := m) hj rfl rfl (by show m < n * 1; omega) (.int .i64 x)
  have h2 := h1.congr (j := j) (G := fun k => .int .i64 (f' k)) (by rw [List.getElem?_set]; rw [if_pos rfl, if_pos hl]) (by
    intro k hk
    have hk' : k < n * 1 := hk
    show (if k = m then Value.int .i64 x else .int .i64 (f k)) = .int .i64 (f' k)
    rw [← e k (by omega)]
    split <;> rfl)
  rw [set_set] at h2
  exact h2
theorem Pool.pushN {v' : Value} {x : Int} (h : Pool w base its) (hj : its[j]? = some (itN v n f)) (ho : w'.ownsRow base 3 1 v' (n + 1) (vals f n ++ [.int .i64 x])) (e : ∀ k, k < n → f k = f' k) (ex : f' n = x) (hg : w.grownBy w' v.ownBlock)
    (hp : v'.ownBlock = v.ownBlock ∨ v'.ownBlock = some w.heap.size) : Pool w' base (its.set j (itN v' (n + 1) f')) :=
  Pool.push (i := itN v n f) (G := fun k => .int .i64 (f' k)) h hj (by
    have e1 : ((List.range 1).map fun c => Value.int .i64 (f' (n * 1 + c))) = [.int .i64 x] := by simp [ex]
    show w'.ownsRow base 3 1 v' (n + 1) (vF (fun k => .int .i64 (f k)) (n * 1) ++ (List.range 1).map fun c => Value.int .i64 (f' (n * 1 + c)))
    rw [e1, Nat.mul_one, ← vals_vN]
    exact ho) (fun k hk => by
    have hk' : k < n * 1 := hk
    show Value.int .i64 (f k) = .int .i64 (f' k)
    rw [e k (by omega)]) hg hp
theorem Pool.addN (h : Pool w base its) (hb : Below w.heap.size w w') (hi : OwnI w' w.heap.size v n f) (hs : base ≤ w.heap.size) : Pool w' base (its ++ [itN v n f]) := h.add (i := itN v n f) hb (ownN_F hi) hs
theorem Pool.drew (h : Pool w base its) : Pool w.drew base its := h.below (Below.refl _ _).drew
/-- A store into a block that is none of theirs. -/
theorem Pool.side {a : Addr} (h : Pool w base its) (ha : ∀ (j : Nat) (i : It), its[j]? = some i → i.v.ownBlock ≠ some a.block) (x : Value) : Pool (w.setCell a x) base its :=
  ⟨fun j i hj => (h.ow j i hj).other (ha j i hj) x, h.ap⟩

end Go.Proofs.Ytlagghoohloklaa

namespace Go.Proofs.Ytlagghoohloklaa
open Go.RowKit Go.Deep

/-- A struct in block g. -/
def itB (t : TypeId) (n g : Nat) (F : Nat → Value) : It := ⟨.slice (some ⟨g, 0, none⟩) 1 1, t, n, 1, F⟩
/-- Since w nothing below its end has changed; the blocks of the pool lie above. -/
structure PS (w wr : World) (its : List It) : Prop where
  be : Below w.heap.size w wr
  pl : Pool wr w.heap.size its
variable {w wr w' : World} {its : List It} {j n g m k : Nat} {t : TypeId} {F F' : Nat → Value} {v : Value} {f f' : Nat → Int} {x : Value}
theorem PS.start (w : World) : PS w w [] := ⟨Below.refl _ _, Pool.nil _ _⟩
theorem PS.below (h : PS w wr its) (hb : Below wr.heap.size wr w') : PS w w' its := ⟨h.be.trans (hb.mono h.be.size), h.pl.below hb⟩
theorem PS.alloc (h : PS w wr its) (o : Obj) : PS w (wr.alloc o) its := h.below (below_box _ _)
theorem PS.drew (h : PS w wr its) : PS w wr.drew its := h.below (Below.refl _ _).drew
theorem PS.sz (h : PS w wr its) : w.heap.size ≤ wr.heap.size := h.be.size
theorem PS.lt (h : PS w wr its) (hj : its[j]? = some (itB t n g F)) : w.heap.size ≤ g ∧ g < wr.heap.size := h.pl.lt hj g rfl
theorem PS.atB (h : PS w wr its) (hj : its[j]? = some (itB t n g F)) : (∀ k, wr.frozen? ⟨g, k, none⟩ = false) ∧ ∀ k, k < n → wr.cell? ⟨g, k, none⟩ = some (F k) := by
  have h1 : OwnF t n wr w.heap.size (.slice (some ⟨g, 0, none⟩) 1 1) 1 F := h.pl.ow j _ hj
  obtain ⟨_, _, _, h2, h3⟩ := h1.at
  exact ⟨h2, fun k hk => h3 k (by omega)⟩
theorem PS.cell (h : PS w wr its) (hj : its[j]? = some (itB t n g F)) (k : Nat) (hk : k < n) : wr.cell? ⟨g, k, none⟩ = some (F k) := (h.atB hj).2 k hk
theorem PS.frz (h : PS w wr its) (hj : its[j]? = some (itB t n g F)) (k : Nat) : wr.frozen? ⟨g, k, none⟩ = false := (h.atB hj).1 k
/-- A store into a struct. -/
theorem PS.st (h : PS w wr its) (hj : its[j]? = some (itB t n g F)) (m : Nat) (hm : m < n) (x : Value) (e : ∀ k, k < n → (if k = m then x else F k) = F' k) : PS w (wr.setCell ⟨g, m, none⟩ x) (its.set j (itB t n g F')) := by
  have hl : j < its.length := (List.getElem?_eq_some_iff.1 hj).1
  have h1 := h.pl.set (i := itB t n g F) (g := g) (n := 1) (cap := 1) (m := m) hj rfl rfl (by show m < 1 * n; omega) x
  have h2 := h1.congr (j := j) (G := F') (by rw [List.getElem?_set, if_pos rfl, if_pos hl]) (fun k hk => e k (by have hk' : k < 1 * n := hk; omega))
  rw [set_set] at h2
  exact ⟨h.be.setCell (h.lt hj).1 x, h2⟩
theorem PS.getN (h : PS w wr its) (hj : its[j]? = some (itN v n f)) : OwnI wr w.heap.size v n f := h.pl.getN hj
theorem PS.setN {cap : Nat} {x : Int} (h : PS w wr its) (hj : its[j]? = some (itN (.slice (some ⟨g, 0, none⟩) n cap) n f)) (hm : m < n) (e : ∀ k, k < n → (if k = m then x else f k) = f' k) :
    PS w (wr.setCell ⟨g, m, none⟩ (.int .i64 x)) (its.set j (itN (.slice (some ⟨g, 0, none⟩) n cap) n f')) := ⟨h.be.setCell (h.pl.lt hj g rfl).1 _, h.pl.setN hj hm e⟩
theorem PS.pushN {v' : Value} {x : Int} (h : PS w wr its) (hj : its[j]? = some (itN v n f)) (ho : w'.ownsRow w.heap.size 3 1 v' (n + 1) (vals f n ++ [.int .i64 x])) (e : ∀ k, k < n → f k = f' k) (ex : f' n = x) (hg : wr.grownBy w' v.ownBlock)
    (hp : v'.ownBlock = v.ownBlock ∨ v'.ownBlock = some wr.heap.size) : PS w w' (its.set j (itN v' (n + 1) f')) :=
  ⟨h.be.grown hg h.be.size (fun k hk => (h.pl.lt hj k hk).1), h.pl.pushN hj ho e ex hg hp⟩
theorem PS.congrN (h : PS w wr its) (hj : its[j]? = some (itN v n f)) (e : ∀ k, k < n → f k = f' k) : PS w wr (its.set j (itN v n f')) := ⟨h.be, h.pl.congrN hj e⟩
theorem PS.addN (h : PS w wr its) (hb : Below wr.heap.size wr w') (hi : OwnI w' wr.heap.size v n f) : PS w w' (its ++ [itN v n f]) := ⟨h.be.trans (hb.mono h.be.size), h.pl.addN hb hi h.be.size⟩
theorem PS.nilN (h : PS w wr its) (f : Nat → Int) : PS w wr (its ++ [itN (.slice none 0 0) 0 f]) := h.addN (Below.refl _ _) (OwnI.nil _ _ _)
theorem PS.addB (h : PS w wr its) (t : TypeId) (cs : Array Value) (F : Nat → Value) (_hm : cs.size ≤ 1000) (e : ∀ k, k < cs.size → cs[k]? = some (F k)) : PS w (wr.alloc (.cells cs t)) (its ++ [itB t cs.size wr.heap.size F]) := by
  have h1 := World.ownsRow_lit (base := wr.heap.size) (e := t) (size := cs.size) wr cs 1 (Nat.le_refl _) (by unfold maxLen; omega) (by omega)
  have h2 : cs.toList = vF F (1 * cs.size) := by
    apply List.ext_getElem?
    intro k
    by_cases hk : k < cs.size
    · rw [vF_at F (by omega), Array.getElem?_toList]
      exact e k hk
    · rw [List.getElem?_eq_none (by rw [Array.length_toList]; omega), List.getElem?_eq_none (by rw [vF_len]; omega)]
  rw [h2] at h1
  exact ⟨(h.alloc _).be, h.pl.add (i := itB t cs.size wr.heap.size F) (below_box _ _) h1 h.be.size⟩
/-- The numbers of item j are apart from those of item k. -/
theorem PS.apN {k : Nat} {u : Value} {q : Nat} {f' : Nat → Int} (h : PS w wr its) (hne : j ≠ k) (hj : its[j]? = some (itN v n f)) (hk : its[k]? = some (itN u q f')) : Apart v u := h.pl.ap j k _ _ hne hj hk
theorem PS.neN {cap : Nat} {g' q : Nat} {f' : Nat → Int} (h : PS w wr its) (hj : its[j]? = some (itB t n g F)) (hk : its[k]? = some (itN (.slice (some ⟨g', 0, none⟩) q cap) q f')) (hne : j ≠ k) : g ≠ g' := fun e => h.pl.ap j k _ _ hne hj hk g rfl (by show some g' = some g; rw [e])
theorem PS.neNN {cap cap' : Nat} {g' q : Nat} {f' : Nat → Int} (h : PS w wr its) (hj : its[j]? = some (itN (.slice (some ⟨g, 0, none⟩) n cap') n f)) (hk : its[k]? = some (itN (.slice (some ⟨g', 0, none⟩) q cap) q f')) (hne : j ≠ k) : g ≠ g' := fun e => h.pl.ap j k _ _ hne hj hk g rfl (by show some g' = some g; rw [e])
theorem PS.neB {t' : TypeId} {n' g' : Nat} (h : PS w wr its) (hj : its[j]? = some (itB t n g F)) (hk : its[k]? = some (itB t' n' g' F')) (hne : j ≠ k) : g ≠ g' := fun e => h.pl.ap j k _ _ hne hj hk g rfl (by show some g' = some g; rw [e])
theorem PS.atN {cap : Nat} (h : PS w wr its) (hj : its[j]? = some (itN (.slice (some ⟨g, 0, none⟩) n cap) n f)) (hk : k < n) : wr.cell? ⟨g, k, none⟩ = some (.int .i64 (f k)) ∧ wr.frozen? ⟨g, k, none⟩ = false ∧ g < wr.heap.size ∧ w.heap.size ≤ g := (h.getN hj).cellAt hk
/-- A slice of zeros, as it is made. -/
theorem made_own (w : World) (n : Nat) (f : Nat → Int) (hn : n ≤ maxLen) (e : ∀ k, k < n → f k = 0) : OwnI (w.alloc (.cells (madeCells #[.int .i64 0] n) 3)) w.heap.size (.slice (some ⟨w.heap.size, 0, none⟩) n n) n f :=
  rowIs_ownI ((World.rowIs_made w (.int .i64 0) n 3).congr fun k hk => by rw [e k hk]) (Nat.le_refl _) hn
theorem own_some' {w : World} {base n : Nat} {a : Option Addr} {cap : Nat} {f : Nat → Int} (h : OwnI w base (.slice a n cap) n f) (hn : 0 < n) : ∃ g, a = some ⟨g, 0, none⟩ := by
  obtain ⟨_, ⟨e, h0⟩ | ⟨g, c, cur, e, _⟩⟩ := h
  · omega
  · simp only [Value.slice.injEq] at e
    exact ⟨g, e.1⟩

/-- What the jobs have received. -/
def dnF (G : Gen) (t : Nat) : Nat → Int := fun i => ((G.ex i - G.left t i : Nat) : Int)
/-- What a simulation with the policy shows. -/
def srpF (ts ss : List T3) (js : List J4) : Nat → Int := fun t => optI ((srpP ts ss js).gen.run t)
def srpFin (ts ss : List T3) (js : List J4) : Nat → Int := fun i => (srpP ts ss js).gen.fin 120 i

end Go.Proofs.Ytlagghoohloklaa
