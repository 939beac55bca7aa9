/- The memory of the simulation with constant bandwidth servers: the result's block and the slices of the simulation, each in a block of its own; what stores and appends leave of it. No function is walked. No condition beyond those that each theorem names. -/
import Derived.Test.YtlkibehieekceaaSrvPick
import Derived.Test.YtlkibehieekceaaPool
import Derived.Test.YtlkibehieekceaaRunSpec
namespace Go.Proofs.Ytlkibehieekceaa
open Go.RowKit Go.Deep

theorem vals_vF (f : Nat → Int) (n : Nat) : vals f n = vF (fun k => .int .i64 (f k)) n := rfl
/-- A slice of numbers, of states, of slices. -/
def itI (v : Value) (n : Nat) (f : Nat → Int) : It := ⟨v, 3, 1, n, fun k => .int .i64 (f k)⟩
def F5 (st : Nat → SV) (m : Nat) : Value := svF (st (m / 5)) (m % 5)
def itS (v : Value) (n : Nat) (st : Nat → SV) : It := ⟨v, 149, 5, n, F5 st⟩
def itV (v : Value) (n : Nat) (ins : Nat → Value) : It := ⟨v, 26, 1, n, ins⟩
theorem ownI_F {w : World} {base : Nat} {v : Value} {n : Nat} {f : Nat → Int} (h : OwnI w base v n f) : OwnF 3 1 w base v n (fun k => .int .i64 (f k)) := by
  unfold OwnF
  rw [Nat.mul_one, ← vals_vF]
  exact h
theorem ownF_I {w : World} {base : Nat} {v : Value} {n : Nat} {f : Nat → Int} (h : OwnF 3 1 w base v n (fun k => .int .i64 (f k))) : OwnI w base v n f := by
  unfold OwnF at h
  rw [Nat.mul_one, ← vals_vF] at h
  exact h
theorem Pool.getI {w : World} {base j n : Nat} {its : List It} {v : Value} {f : Nat → Int} (h : Pool w base its) (hj : its[j]? = some (itI v n f)) : OwnI w base v n f := ownF_I (h.ow j _ hj)
theorem Pool.rowSt {w : World} {base j n cap : Nat} {its : List It} {a : Option Addr} {st : Nat → SV} (h : Pool w base its) (hj : its[j]? = some (itS (.slice a n cap) n st)) : RowSt w a n st := fun k hk => by
  have h1 : OwnF 149 5 w base (.slice a n cap) n (F5 st) := h.ow j _ hj
  obtain ⟨g, c, e⟩ := h1.has (by omega)
  simp only [Value.slice.injEq] at e
  obtain ⟨rfl, _, rfl⟩ := e
  obtain ⟨q1, _, _, _, q5⟩ := h1.at
  refine ⟨g, 0, rfl, q1, fun c hc => ?_⟩
  have : k * 5 + c < n * 5 := by omega
  rw [Nat.zero_add, q5 _ this, F5, show (k * 5 + c) / 5 = k by omega, show (k * 5 + c) % 5 = c by omega]
/-- The four slices of the result. -/
def outF (vr vf vc vs : Value) : Nat → Value
  | 0 => vr
  | 1 => vf
  | 2 => vc
  | _ => vs
/-- The simulation under way: the result's block, the block of out, the slices. -/
structure LS (w wr : World) (its : List It) (vr vf vc vs : Value) : Prop where
  be : Below w.heap.size w wr
  b0 : ∃ f, wr.rowIs w.heap.size 66 4 f
  b1 : wr.rowIs (w.heap.size + 1) 66 4 (outF vr vf vc vs)
  pl : Pool wr (w.heap.size + 2) its
variable {w wr w' : World} {its : List It} {vr vf vc vs : Value} {i : It} {j : Nat}
theorem LS.below (h : LS w wr its vr vf vc vs) (hb : Below wr.heap.size wr w') : LS w w' its vr vf vc vs := by
  obtain ⟨f, hf⟩ := h.b0
  exact ⟨h.be.trans (hb.mono h.be.size), ⟨f, hf.of_block (hb.block _ hf.lt)⟩, h.b1.of_block (hb.block _ h.b1.lt), h.pl.below hb⟩
theorem LS.alloc (h : LS w wr its vr vf vc vs) (o : Obj) : LS w (wr.alloc o) its vr vf vc vs := h.below (below_box _ _)
theorem LS.sz (h : LS w wr its vr vf vc vs) : w.heap.size + 2 ≤ wr.heap.size := h.b1.lt
theorem LS.set {g n cap m : Nat} (h : LS w wr its vr vf vc vs) (hj : its[j]? = some i) (hv : i.v = .slice (some ⟨g, 0, none⟩) n cap) (hn : n = i.n) (hm : m < i.n * i.size) (x : Value) :
    LS w (wr.setCell ⟨g, m, none⟩ x) (its.set j ⟨i.v, i.t, i.size, i.n, fun l => if l = m then x else i.F l⟩) vr vf vc vs := by
  obtain ⟨f, hf⟩ := h.b0
  have hg : w.heap.size + 2 ≤ g := (h.pl.lt hj g (by rw [hv]; rfl)).1
  exact ⟨h.be.setCell (by show w.heap.size ≤ g; omega) x, ⟨f, hf.setOther (by show w.heap.size ≠ g; omega) x⟩, h.b1.setOther (by show w.heap.size + 1 ≠ g; omega) x, h.pl.set hj hv hn hm x⟩
theorem LS.push {v' : Value} {G : Nat → Value} (h : LS w wr its vr vf vc vs) (hj : its[j]? = some i) (ho : w'.ownsRow (w.heap.size + 2) i.t i.size v' (i.n + 1) (vF i.F (i.n * i.size) ++ (List.range i.size).map fun c => G (i.n * i.size + c)))
    (e : ∀ k, k < i.n * i.size → i.F k = G k) (hg : wr.grownBy w' i.v.ownBlock) (hp : v'.ownBlock = i.v.ownBlock ∨ v'.ownBlock = some wr.heap.size) : LS w w' (its.set j ⟨v', i.t, i.size, i.n + 1, G⟩) vr vf vc vs := by
  obtain ⟨f, hf⟩ := h.b0
  have hl := h.pl.lt hj
  refine ⟨h.be.grown hg h.be.size (fun k hk => by have := (hl k hk).1; omega), ⟨f, hf.of_block (hg.block _ hf.lt fun e => by have := (hl _ e.symm).1; omega)⟩, h.b1.of_block (hg.block _ h.b1.lt fun e => by have := (hl _ e.symm).1; omega), h.pl.push hj ho e hg hp⟩
theorem LS.pushI {v v' : Value} {n : Nat} {f : Nat → Int} {x : Int} (h : LS w wr its vr vf vc vs) (hj : its[j]? = some (itI v n f)) (ho : w'.ownsRow (w.heap.size + 2) 3 1 v' (n + 1) (vals f n ++ [.int .i64 x]))
    (hg : wr.grownBy w' v.ownBlock) (hp : v'.ownBlock = v.ownBlock ∨ v'.ownBlock = some wr.heap.size) : LS w w' (its.set j (itI v' (n + 1) (fun k => if k = n then x else f k))) vr vf vc vs := by
  refine LS.push (i := itI v n f) (G := fun k => .int .i64 (if k = n then x else f k)) h hj ?_ (fun k hk => ?_) hg hp
  · show w'.ownsRow (w.heap.size + 2) 3 1 v' (n + 1) (vF (fun k => .int .i64 (f k)) (n * 1) ++ [.int .i64 (if n * 1 + 0 = n then x else f (n * 1 + 0))])
    rw [Nat.mul_one, if_pos (Nat.add_zero n), ← vals_vF]
    exact ho
  · have : k < n * 1 := hk
    show Value.int .i64 (f k) = .int .i64 (if k = n then x else f k)
    rw [if_neg (by omega)]
/-- A store into out. -/
theorem LS.out (h : LS w wr its vr vf vc vs) (c : Nat) (v : Value) {vr' vf' vc' vs' : Value} (e : ∀ k, k < 4 → (if k = c then v else outF vr vf vc vs k) = outF vr' vf' vc' vs' k) : LS w (wr.setCell ⟨w.heap.size + 1, c, none⟩ v) its vr' vf' vc' vs' := by
  obtain ⟨f, hf⟩ := h.b0
  exact ⟨h.be.setCell (by show w.heap.size ≤ w.heap.size + 1; omega) v, ⟨f, hf.setOther (by show w.heap.size ≠ w.heap.size + 1; omega) v⟩, (h.b1.set c v).congr e, h.pl.other (by show w.heap.size + 1 < w.heap.size + 2; omega) v⟩
theorem LS.out0 (h : LS w wr its vr vf vc vs) (v : Value) : LS w (wr.setCell ⟨w.heap.size + 1, 0, none⟩ v) its v vf vc vs := h.out 0 v fun k hk => by
  match k, hk with
  | 0, _ | 1, _ | 2, _ | 3, _ => rfl
theorem LS.out1 (h : LS w wr its vr vf vc vs) (v : Value) : LS w (wr.setCell ⟨w.heap.size + 1, 1, none⟩ v) its vr v vc vs := h.out 1 v fun k hk => by
  match k, hk with
  | 0, _ | 1, _ | 2, _ | 3, _ => rfl
theorem LS.out2 (h : LS w wr its vr vf vc vs) (v : Value) : LS w (wr.setCell ⟨w.heap.size + 1, 2, none⟩ v) its vr vf v vs := h.out 2 v fun k hk => by
  match k, hk with
  | 0, _ | 1, _ | 2, _ | 3, _ => rfl
theorem LS.out3 (h : LS w wr its vr vf vc vs) (v : Value) : LS w (wr.setCell ⟨w.heap.size + 1, 3, none⟩ v) its vr vf vc v := h.out 3 v fun k hk => by
  match k, hk with
  | 0, _ | 1, _ | 2, _ | 3, _ => rfl
theorem LS.c (h : LS w wr its vr vf vc vs) : wr.cell? ⟨w.heap.size + 1, 0, none⟩ = some vr ∧ wr.cell? ⟨w.heap.size + 1, 1, none⟩ = some vf ∧ wr.cell? ⟨w.heap.size + 1, 2, none⟩ = some vc ∧ wr.cell? ⟨w.heap.size + 1, 3, none⟩ = some vs ∧ ∀ k, wr.frozen? ⟨w.heap.size + 1, k, none⟩ = false :=
  ⟨h.b1.cell (by omega), h.b1.cell (by omega), h.b1.cell (by omega), h.b1.cell (by omega), h.b1.frozen⟩
theorem LS.congrI {v : Value} {n : Nat} {f g : Nat → Int} (h : LS w wr its vr vf vc vs) (hj : its[j]? = some (itI v n f)) (e : ∀ k, k < n → f k = g k) : LS w wr (its.set j (itI v n g)) vr vf vc vs :=
  ⟨h.be, h.b0, h.b1, h.pl.congr (i := itI v n f) (G := fun k => .int .i64 (g k)) hj fun k hk => by have : k < n * 1 := hk; show Value.int .i64 (f k) = .int .i64 (g k); rw [e k (by omega)]⟩
theorem set_last {α : Type} (A : List α) (x y : α) : (A ++ [x]).set A.length y = A ++ [y] := by simp
theorem get_last {α : Type} (A : List α) (x : α) : (A ++ [x])[A.length]? = some x := by simp
/-- The state of a server at the start. -/
def st0 (ss : List A2) (k : Nat) : SV := ⟨aT ss k, 0, 0, 0, 0⟩
theorem LS.pushS {v v' : Value} {n : Nat} {st st' : Nat → SV} (h : LS w wr its vr vf vc vs) (hj : its[j]? = some (itS v n st)) (ho : w'.ownsRow (w.heap.size + 2) 149 5 v' (n + 1) (vF (F5 st) (n * 5) ++ [svF (st' n) 0, svF (st' n) 1, svF (st' n) 2, svF (st' n) 3, svF (st' n) 4]))
    (e : ∀ k, k < n → st k = st' k) (hg : wr.grownBy w' v.ownBlock) (hp : v'.ownBlock = v.ownBlock ∨ v'.ownBlock = some wr.heap.size) : LS w w' (its.set j (itS v' (n + 1) st')) vr vf vc vs := by
  refine LS.push (i := itS v n st) (G := F5 st') h hj ?_ (fun k hk => ?_) hg hp
  · have e5 : ((List.range 5).map fun c => F5 st' (n * 5 + c)) = [svF (st' n) 0, svF (st' n) 1, svF (st' n) 2, svF (st' n) 3, svF (st' n) 4] := by
      have h0 : ∀ c, c < 5 → F5 st' (n * 5 + c) = svF (st' n) c := fun c hc => by rw [F5, show (n * 5 + c) / 5 = n by omega, show (n * 5 + c) % 5 = c by omega]
      show [F5 st' (n * 5 + 0), F5 st' (n * 5 + 1), F5 st' (n * 5 + 2), F5 st' (n * 5 + 3), F5 st' (n * 5 + 4)] = _
      rw [h0 0 (by omega), h0 1 (by omega), h0 2 (by omega), h0 3 (by omega), h0 4 (by omega)]
    show w'.ownsRow (w.heap.size + 2) 149 5 v' (n + 1) (vF (F5 st) (n * 5) ++ (List.range 5).map fun c => F5 st' (n * 5 + c))
    rw [e5]
    exact ho
  · have hk' : k < n * 5 := hk
    show F5 st k = F5 st' k
    rw [F5, F5, e (k / 5) (by omega)]
theorem LS.pushV {v v' x : Value} {n : Nat} {iv : Nat → Value} (h : LS w wr its vr vf vc vs) (hj : its[j]? = some (itV v n iv)) (ho : w'.ownsRow (w.heap.size + 2) 26 1 v' (n + 1) (vF iv (n * 1) ++ [x]))
    (hg : wr.grownBy w' v.ownBlock) (hp : v'.ownBlock = v.ownBlock ∨ v'.ownBlock = some wr.heap.size) : LS w w' (its.set j (itV v' (n + 1) (fun k => if k = n then x else iv k))) vr vf vc vs := by
  refine LS.push (i := itV v n iv) (G := fun k => if k = n then x else iv k) h hj ?_ (fun k hk => ?_) hg hp
  · show w'.ownsRow (w.heap.size + 2) 26 1 v' (n + 1) (vF iv (n * 1) ++ [if n * 1 + 0 = n then x else iv (n * 1 + 0)])
    rw [if_pos (by omega)]
    exact ho
  · have : k < n * 1 := hk
    show iv k = if k = n then x else iv k
    rw [if_neg (by omega)]
theorem newsv5 (w : World) (a b c d e : Value) (t : TypeId) : ∀ (j : Nat) (u : Value), [a, b, c, d, e][j]? = some u → (w.alloc (.cells #[a, b, c, d, e] t)).cell? ((⟨w.heap.size, 0, none⟩ : Addr).add j) = some u := by
  intro j u hj
  match j, hj with
  | 0, hj => simp at hj; subst hj; simp [Addr.add, go_sem]
  | 1, hj => simp at hj; subst hj; simp [Addr.add, go_sem]
  | 2, hj => simp at hj; subst hj; simp [Addr.add, go_sem]
  | 3, hj => simp at hj; subst hj; simp [Addr.add, go_sem]
  | 4, hj => simp at hj; subst hj; simp [Addr.add, go_sem]
  | j + 5, hj => simp at hj
theorem onev5 (c : SV) : ∀ u ∈ [svF c 0, svF c 1, svF c 2, svF c 3, svF c 4], u.oneCell' = true := by
  intro u hu
  simp only [List.mem_cons, List.not_mem_nil, or_false] at hu
  rcases hu with rfl | rfl | rfl | rfl | rfl <;> rfl
theorem stInfo : (Try.prog.info? 149).map (fun i => (i.zero, i.size, i.bytes)) = some (some (.agg #[.int .i64 0, .int .i64 0, .int .i64 0, .int .i64 0, .int .i64 0]), 5, 40) := by kernel_rfl
theorem isInfo : (Try.prog.info? 26).map (fun i => (i.zero, i.size, i.bytes)) = some (some (.slice none 0 0), 1, 24) := by kernel_rfl
/-- The slices of the simulation: left, keys, run, finish, chosen, served, states; then the inner ones. -/
def insL (als : List (List A2)) (iv : Nat → Value) (d : Nat → Nat → Int) (k : Nat) : List It := (List.range k).map fun i => itI (iv i) (als.getD i []).length (d i)
theorem insL_succ (als : List (List A2)) (iv : Nat → Value) (d : Nat → Nat → Int) (k : Nat) (x : Value) : insL als (fun i => if i = k then x else iv i) d (k + 1) = insL als iv d k ++ [itI x (als.getD k []).length (d k)] := by
  unfold insL
  rw [List.range_succ, List.map_append]
  congr 1
  · refine List.map_congr_left fun i hi => ?_
    have := List.mem_range.1 hi
    simp only [if_neg (show ¬ i = k by omega)]
  · simp
theorem al_x {al : List A2} (h : alB al = true) {i : Nat} (hi : i < al.length) : aX al i ≤ 20 := by
  have := (alB_iff.1 h).2 i hi
  rw [ab_X]
  omega
theorem arr_rest {s : SV} {q p now : Nat} {al : List A2} (h : alB al = true) (hr : s.rest ≤ 20) : (s.arr q p al now).rest ≤ 20 :=
  (arr_ind (I := fun s : SV => s.rest ≤ 20) (q := q) (p := p) (now := now) (al := al) (fun s hs hl _ => by
    unfold SV.take
    split
    · split <;> exact al_x h hl
    · exact hs) (Nat.le_refl _) hr).1
/-- The servers' numbers stay small. -/
theorem sv_le {C : Cb} (hC : C.Ok) {k : Nat} (hk : k < C.ns) (ha : alB (C.al k) = true) (hq : C.q k ≤ 12) (hp : C.p k ≤ 12) : ∀ t, t ≤ 120 → SvLe ((C.st t).sv k) ∧ SvLe (C.A t k) := by
  have hl := (alB_iff.1 ha).1
  have key : ∀ t, ((C.st t).sv k).rest ≤ 20 := fun t => by
    induction t with
    | zero => exact Nat.zero_le _
    | succ t ih =>
      have h1 : (C.A t k).rest ≤ 20 := arr_rest ha ih
      rw [C.sv_succ]
      split
      · show (if (C.A t k).rest - 1 = 0 then (if (C.A t k).head + 1 < (C.A t k).come then aX (C.al k) ((C.A t k).head + 1) else 0) else (C.A t k).rest - 1) ≤ 20
        split
        · split
          · have := (Cb.A_ok hC hk t).cl
            exact al_x ha (by omega)
          · exact Nat.zero_le _
        · omega
      · exact h1
  have one : ∀ {s : SV} {t : Nat}, t ≤ 120 → SvOk (C.q k) (C.al k) s → s.dl ≤ (t + 1) * C.p k + t → s.rest ≤ 20 → SvLe s := fun {s t} ht h1 h2 h3 => by
    have h4 : (t + 1) * C.p k ≤ 121 * 12 := Nat.mul_le_mul (by omega) hp
    have a1 := h1.lq
    have a2 := h1.cl
    have a3 := h1.hc
    exact ⟨by omega, by omega, by omega, by omega, h3⟩
  exact fun t ht => ⟨one ht (Cb.sv_ok hC hk t) (Cb.sv_dl t) (key t), one ht (Cb.A_ok hC hk t) (Cb.dl_up (Cb.sv_dl t)) (arr_rest ha (key t))⟩
theorem LS.setS {a : Option Addr} {n cap k : Nat} {st : Nat → SV} {c : SV} (h : LS w wr its vr vf vc vs) (hj : its[j]? = some (itS (.slice a n cap) n st)) (hk : k < n) {g : Nat} (hg : a = some ⟨g, 0, none⟩) {st' : Nat → SV} (e : ∀ i, i < n → (if i = k then c else st i) = st' i) :
    LS w (((((wr.setCell ⟨g, k * 5, none⟩ (.int .i64 (c.left : Int))).setCell ⟨g, k * 5 + 1, none⟩ (.int .i64 (c.dl : Int))).setCell ⟨g, k * 5 + 2, none⟩ (.int .i64 (c.come : Int))).setCell ⟨g, k * 5 + 3, none⟩ (.int .i64 (c.head : Int))).setCell ⟨g, k * 5 + 4, none⟩ (.int .i64 (c.rest : Int))) (its.set j (itS (.slice a n cap) n st')) vr vf vc vs := by
  subst hg
  have hl : j < its.length := (List.getElem?_eq_some_iff.1 hj).1
  have gs : ∀ (l : List It) (x : It), j < l.length → (l.set j x)[j]? = some x := fun l x hx => by rw [List.getElem?_set, if_pos rfl, if_pos hx]
  have h1 := h.set (m := k * 5) hj rfl rfl (by show k * 5 < n * 5; omega) (.int .i64 (c.left : Int))
  have h2 := h1.set (m := k * 5 + 1) (gs _ _ hl) rfl rfl (by show k * 5 + 1 < n * 5; omega) (.int .i64 (c.dl : Int))
  have h3 := h2.set (m := k * 5 + 2) (gs _ _ (by simpa using hl)) rfl rfl (by show k * 5 + 2 < n * 5; omega) (.int .i64 (c.come : Int))
  have h4 := h3.set (m := k * 5 + 3) (gs _ _ (by simpa using hl)) rfl rfl (by show k * 5 + 3 < n * 5; omega) (.int .i64 (c.head : Int))
  have h5 := h4.set (m := k * 5 + 4) (gs _ _ (by simpa using hl)) rfl rfl (by show k * 5 + 4 < n * 5; omega) (.int .i64 (c.rest : Int))
  simp only [List.set_set] at h5
  have h6 := h5.pl.congr (G := F5 st') (gs _ _ hl) (fun m hm => by
    have hm' : m < n * 5 := hm
    show (if m = k * 5 + 4 then Value.int .i64 (c.rest : Int) else if m = k * 5 + 3 then .int .i64 (c.head : Int) else if m = k * 5 + 2 then .int .i64 (c.come : Int) else if m = k * 5 + 1 then .int .i64 (c.dl : Int) else if m = k * 5 then .int .i64 (c.left : Int) else F5 st m) = F5 st' m
    unfold F5
    rw [← e (m / 5) (by omega)]
    by_cases hd : m / 5 = k
    · rw [if_pos hd]
      have hm5 : m % 5 = 0 ∨ m % 5 = 1 ∨ m % 5 = 2 ∨ m % 5 = 3 ∨ m % 5 = 4 := by omega
      rcases hm5 with e5 | e5 | e5 | e5 | e5
      · rw [if_neg (by omega), if_neg (by omega), if_neg (by omega), if_neg (by omega), if_pos (by omega), e5]; rfl
      · rw [if_neg (by omega), if_neg (by omega), if_neg (by omega), if_pos (by omega), e5]; rfl
      · rw [if_neg (by omega), if_neg (by omega), if_pos (by omega), e5]; rfl
      · rw [if_neg (by omega), if_pos (by omega), e5]; rfl
      · rw [if_pos (by omega), e5]; rfl
    · rw [if_neg hd, if_neg (by omega), if_neg (by omega), if_neg (by omega), if_neg (by omega), if_neg (by omega)])
  rw [List.set_set] at h6
  exact ⟨h5.be, h5.b0, h5.b1, h6⟩
theorem LS.add (h : LS w wr its vr vf vc vs) (hb : Below wr.heap.size wr w') (hi : OwnF i.t i.size w' wr.heap.size i.v i.n i.F) : LS w w' (its ++ [i]) vr vf vc vs := by
  have h2 := h.below hb
  exact ⟨h2.be, h2.b0, h2.b1, h.pl.add hb hi h.sz⟩
theorem LS.addNil (h : LS w wr its vr vf vc vs) (t : TypeId) (size : Nat) (F : Nat → Value) : LS w wr (its ++ [⟨.slice none 0 0, t, size, 0, F⟩]) vr vf vc vs := h.add (Below.refl _ _) (OwnF.nil _ _ _ _ _)
theorem LS.start (w : World) : LS w ((w.alloc (.cells #[.slice none 0 0, .slice none 0 0, .slice none 0 0, .slice none 0 0] 66)).alloc (.cells #[.slice none 0 0, .slice none 0 0, .slice none 0 0, .slice none 0 0] 66)) [] (.slice none 0 0) (.slice none 0 0) (.slice none 0 0) (.slice none 0 0) := by
  have h1 : (w.alloc (.cells #[.slice none 0 0, .slice none 0 0, .slice none 0 0, .slice none 0 0] 66)).rowIs w.heap.size 66 4 (fun _ => .slice none 0 0) := World.rowIs_alloc w _ _ _ fun i hi => by
    match i, hi with
    | 0, _ | 1, _ | 2, _ | 3, _ => rfl
  refine ⟨(below_box w _).trans ((below_box _ _).mono (by simp)), ⟨_, h1.alloc _⟩, ?_, Pool.nil _ _⟩
  have h2 := World.rowIs_alloc (w.alloc (.cells #[.slice none 0 0, .slice none 0 0, .slice none 0 0, .slice none 0 0] 66)) #[.slice none 0 0, .slice none 0 0, .slice none 0 0, .slice none 0 0] 66 (outF (.slice none 0 0) (.slice none 0 0) (.slice none 0 0) (.slice none 0 0)) fun i hi => by
    match i, hi with
    | 0, _ | 1, _ | 2, _ | 3, _ => rfl
  simp only [World.alloc, Array.size_push] at h2 ⊢
  exact h2

/-- All slices of the simulation. -/
def tL (js : List J4) (als : List (List A2)) (n : Nat) (vl vk vr vf vc vs vt : Value) (iv : Nat → Value) (lf : Nat → Nat) (nr : Nat) (rn fn : Nat → Int) (nc : Nat) (ch : Nat → Int) (st : Nat → SV) (d : Nat → Nat → Int) : List It :=
  [itI vl js.length (fun i => (lf i : Int)), itI vk js.length (fun i => (jdl js i : Int)), itI vr nr rn, itI vf js.length fn, itI vc nc ch, itV vs n iv, itS vt n st] ++ insL als iv d n
theorem LS.congrS {v : Value} {n : Nat} {st st' : Nat → SV} (h : LS w wr its vr vf vc vs) (hj : its[j]? = some (itS v n st)) (e : ∀ k, k < n → st k = st' k) : LS w wr (its.set j (itS v n st')) vr vf vc vs :=
  ⟨h.be, h.b0, h.b1, h.pl.congr (i := itS v n st) (G := F5 st') hj fun k hk => by have : k < n * 5 := hk; show F5 st k = F5 st' k; rw [F5, F5, e (k / 5) (by omega)]⟩
theorem insL_get {als : List (List A2)} {iv : Nat → Value} {d : Nat → Nat → Int} {k n : Nat} (hk : k < n) : (insL als iv d n)[k]? = some (itI (iv k) (als.getD k []).length (d k)) := by simp [insL, hk]
theorem LS.setI {g n cap m : Nat} {f f' : Nat → Int} {x : Int} (h : LS w wr its vr vf vc vs) (hj : its[j]? = some (itI (.slice (some ⟨g, 0, none⟩) n cap) n f)) (hm : m < n) (e : ∀ k, k < n → (if k = m then x else f k) = f' k) :
    LS w (wr.setCell ⟨g, m, none⟩ (.int .i64 x)) (its.set j (itI (.slice (some ⟨g, 0, none⟩) n cap) n f')) vr vf vc vs := by
  have hl : j < its.length := (List.getElem?_eq_some_iff.1 hj).1
  have h1 := h.set (m := m) hj rfl rfl (by show m < n * 1; omega) (.int .i64 x)
  have h2 := h1.pl.congr (j := j) (G := fun k => .int .i64 (f' k)) (by rw [List.getElem?_set, if_pos rfl, if_pos hl]) (fun k hk => by
    have hk' : k < n * 1 := hk
    show (if k = m then Value.int .i64 x else .int .i64 (f k)) = .int .i64 (f' k)
    rw [← e k (by omega)]
    split <;> rfl)
  rw [List.set_set] at h2
  exact ⟨h1.be, h1.b0, h1.b1, h2⟩
theorem tL_get {js : List J4} {als : List (List A2)} {n nr nc k : Nat} {vl vk vt : Value} {iv : Nat → Value} {lf : Nat → Nat} {rn fn ch : Nat → Int} {st : Nat → SV} {d : Nat → Nat → Int} (hk : k < n) :
    (tL js als n vl vk vr vf vc vs vt iv lf nr rn fn nc ch st d)[k + 7]? = some (itI (iv k) (als.getD k []).length (d k)) := by
  have : (insL als iv d n)[k]? = some (itI (iv k) (als.getD k []).length (d k)) := insL_get hk
  simpa [tL] using this
theorem tL_set {js : List J4} {als : List (List A2)} {n nr nc k : Nat} {vl vk vt : Value} {iv : Nat → Value} {lf : Nat → Nat} {rn fn ch : Nat → Int} {st : Nat → SV} {d d' : Nat → Nat → Int} (hd : ∀ i, i ≠ k → d' i = d i) :
    (tL js als n vl vk vr vf vc vs vt iv lf nr rn fn nc ch st d).set (k + 7) (itI (iv k) (als.getD k []).length (d' k)) = tL js als n vl vk vr vf vc vs vt iv lf nr rn fn nc ch st d' := by
  have h : (insL als iv d n).set k (itI (iv k) (als.getD k []).length (d' k)) = insL als iv d' n := by
    unfold insL
    apply List.ext_getElem?
    intro l
    rw [List.getElem?_set]
    by_cases e : k = l
    · subst e
      by_cases hl : k < n
      · simp [hl]
      · simp [hl]
    · rw [if_neg e]
      by_cases hl : l < n
      · simp [hl, hd l (fun h => e h.symm)]
      · simp [hl]
  show _ :: _ :: _ :: _ :: _ :: _ :: _ :: _ = _
  unfold tL
  rw [← h]
  rfl
theorem tL_dn {js : List J4} {als : List (List A2)} {n nr nc : Nat} {vl vk vt : Value} {iv : Nat → Value} {lf : Nat → Nat} {rn fn ch : Nat → Int} {st : Nat → SV} {d d' : Nat → Nat → Int} (hd : ∀ i, i < n → d' i = d i) :
    tL js als n vl vk vr vf vc vs vt iv lf nr rn fn nc ch st d = tL js als n vl vk vr vf vc vs vt iv lf nr rn fn nc ch st d' := by
  unfold tL insL
  congr 1
  refine List.map_congr_left fun i hi => ?_
  rw [hd i (List.mem_range.1 hi)]
/-- The same slices, told otherwise. -/
theorem LS.tick {js : List J4} {als : List (List A2)} {n nr nc : Nat} {vl vk vt : Value} {iv : Nat → Value} {lf lf' : Nat → Nat} {rn fn ch rn' fn' ch' : Nat → Int} {st st' : Nat → SV} {d d' : Nat → Nat → Int} (h : LS w wr (tL js als n vl vk vr vf vc vs vt iv lf nr rn fn nc ch st d) vr vf vc vs)
    (e1 : ∀ i, i < js.length → lf i = lf' i) (e2 : ∀ i, i < nr → rn i = rn' i) (e3 : ∀ i, i < js.length → fn i = fn' i) (e4 : ∀ i, i < nc → ch i = ch' i) (e5 : ∀ i, i < n → st i = st' i) (e6 : ∀ i, i < n → d' i = d i) : LS w wr (tL js als n vl vk vr vf vc vs vt iv lf' nr rn' fn' nc ch' st' d') vr vf vc vs := by
  rw [tL_dn e6] at h
  exact ((((h.congrI (j := 0) (g := fun i => (lf' i : Int)) rfl (fun i hi => by rw [e1 i hi])).congrI (j := 2) rfl e2).congrI (j := 3) rfl e3).congrI (j := 4) rfl e4).congrS (j := 6) rfl e5
theorem LS.stAt {g n cap k : Nat} {st : Nat → SV} (h : LS w wr its vr vf vc vs) (hj : its[j]? = some (itS (.slice (some ⟨g, 0, none⟩) n cap) n st)) (hk : k < n) : (∀ c, c < 5 → wr.cell? ⟨g, k * 5 + c, none⟩ = some (svF (st k) c)) ∧ (∀ m, wr.frozen? ⟨g, m, none⟩ = false) ∧ g < wr.heap.size ∧ w.heap.size + 2 ≤ g := by
  have h1 : OwnF 149 5 wr (w.heap.size + 2) (.slice (some ⟨g, 0, none⟩) n cap) n (F5 st) := h.pl.ow j _ hj
  obtain ⟨q1, q2, _, q4, q5⟩ := h1.at
  refine ⟨fun c hc => ?_, q4, q1, q2⟩
  rw [q5 _ (by omega), F5, show (k * 5 + c) / 5 = k by omega, show (k * 5 + c) % 5 = c by omega]
/-- A choice among the slices. -/
theorem Pool.sub {w : World} {base : Nat} {its its' : List It} (h : Pool w base its) (f : Nat → Nat) (hf : ∀ a b, a ≠ b → f a ≠ f b) (hs : ∀ (j : Nat) (i : It), its'[j]? = some i → its[f j]? = some i) : Pool w base its' :=
  ⟨fun j i hj => h.ow _ _ (hs j i hj), fun j k a b hne hj hk => h.ap _ _ a b (hf j k hne) (hs j a hj) (hs k b hk)⟩
/-- What the simulation with servers returns. -/
def GotSR (base : Nat) (js : List J4) (ss : List A2) (als : List (List A2)) (e : Ending) (w' : World) : Prop :=
  ∃ (vr vf vc vs : Value) (iv : Nat → Value), e = .returned (.agg #[vr, vf, vc, vs]) ∧ Pool w' base ([itI vr 120 (fun u => optI ((cbOf js ss als).run u)), itI vf js.length ((cbOf js ss als).fin 120), itI vc 120 (fun u => optI ((cbOf js ss als).K u)), itV vs ss.length iv] ++ insL als iv ((cbOf js ss als).dn 120) ss.length)
theorem tL_res {w' : World} {base n nr nc : Nat} {js : List J4} {als : List (List A2)} {vl vk vt : Value} {iv : Nat → Value} {lf : Nat → Nat} {rn fn ch : Nat → Int} {st : Nat → SV} {d : Nat → Nat → Int} (h : Pool w' base (tL js als n vl vk vr vf vc vs vt iv lf nr rn fn nc ch st d)) :
    Pool w' base ([itI vr nr rn, itI vf js.length fn, itI vc nc ch, itV vs n iv] ++ insL als iv d n) := by
  refine h.sub (fun j => if j < 4 then j + 2 else j + 3) (fun a b hne => by split <;> split <;> omega) (fun j i hj => ?_)
  match j, hj with
  | 0, hj | 1, hj | 2, hj | 3, hj => exact hj
  | j + 4, hj =>
    rw [if_neg (by omega)]
    exact hj
theorem LS.inGet {js : List J4} {als : List (List A2)} {n nr nc k : Nat} {vl vk vt vr0 vf0 vc0 vs0 : Value} {iv : Nat → Value} {lf : Nat → Nat} {rn fn ch : Nat → Int} {st : Nat → SV} {d : Nat → Nat → Int} (h : LS w wr (tL js als n vl vk vr0 vf0 vc0 vs0 vt iv lf nr rn fn nc ch st d) vr vf vc vs) (hk : k < n) :
    OwnI wr (w.heap.size + 2) (iv k) (als.getD k []).length (d k) := h.pl.getI (tL_get hk)
theorem LS.inSet {js : List J4} {als : List (List A2)} {n nr nc k gi N ic m : Nat} {x : Int} {vl vk vt vr0 vf0 vc0 vs0 : Value} {iv : Nat → Value} {lf : Nat → Nat} {rn fn ch : Nat → Int} {st : Nat → SV} {d d' : Nat → Nat → Int} (h : LS w wr (tL js als n vl vk vr0 vf0 vc0 vs0 vt iv lf nr rn fn nc ch st d) vr vf vc vs) (hk : k < n)
    (hiv : iv k = .slice (some ⟨gi, 0, none⟩) N ic) (hN : N = (als.getD k []).length) (hm : m < N) (e : ∀ l, l < N → (if l = m then x else d k l) = d' k l) (hd : ∀ i, i ≠ k → d' i = d i) :
    LS w (wr.setCell ⟨gi, m, none⟩ (.int .i64 x)) (tL js als n vl vk vr0 vf0 vc0 vs0 vt iv lf nr rn fn nc ch st d') vr vf vc vs := by
  have hg := tL_get (js := js) (als := als) (nr := nr) (nc := nc) (vl := vl) (vk := vk) (vt := vt) (vr := vr0) (vf := vf0) (vc := vc0) (vs := vs0) (iv := iv) (lf := lf) (rn := rn) (fn := fn) (ch := ch) (st := st) (d := d) hk
  rw [hiv, ← hN] at hg
  have h2 := h.setI (f' := d' k) hg hm e
  rw [← hiv, hN, tL_set hd] at h2
  exact h2
theorem Pool.mono {w : World} {base base' : Nat} {its : List It} (h : Pool w base its) (hb : base' ≤ base) : Pool w base' its := ⟨fun j i hj => (h.ow j i hj).mono hb, h.ap⟩

end Go.Proofs.Ytlkibehieekceaa
