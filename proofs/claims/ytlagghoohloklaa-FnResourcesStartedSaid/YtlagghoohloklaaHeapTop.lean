/- Contracts of container/heap's Push and Pop over impl.readyJobs. Conditions: the cells hold what is said; at most 60 jobs. -/
import Derived.Test.YtlagghoohloklaaHeapUp
namespace Go.Proofs.Ytlagghoohloklaa
open Go.RowKit Go.Deep
variable {w0 w w' : World} {R N n : Nat} {cb v : Value} {f : Nat → Nat}

/-- One more at the end. -/
def atEnd (f : Nat → Nat) (n x : Nat) : Nat → Nat := fun k => if k = n then x else f k
theorem upOk_atEnd {K : Nat → Nat} {x : Nat} (h : HeapOk K f n) : UpOk K (atEnd f n x) (n + 1) n :=
  upOk_push fun c c0 hc => by
    have hp : par c < c := by unfold par; omega
    have e1 : atEnd f n x (par c) = f (par c) := if_neg (by omega)
    have e2 : atEnd f n x c = f c := if_neg (by omega)
    rw [e1, e2]
    exact h c c0 hc
def SomeV (e : Ending) : Prop := ∃ v, e = .returned v

set_option maxRecDepth 100000 in
/-- container/heap.Push. -/
theorem heapPush_any {ja : Option Addr} {jcap : Nat} {js : List J4} {K : Nat → Nat} {x : Nat} (hC : Cmp w0 cb ja jcap js K) (h : HS w0 R cb js.length w v n f) (hx : x < js.length) (hn : n ≤ 60) (hk : HeapOk K f n) :
    Calls Try.prog 91 #[rdyV R, .iface 3 (.int .i64 (x : Int))] w fun e w' =>
      SomeV e ∧ ∃ v' f', HS w0 R cb js.length w' v' (n + 1) f' ∧ HeapOk K f' (n + 1) ∧ Mixed (n + 1) (atEnd f n x) f' ∧ Chg R v.ownBlock w w' ∧ (v'.ownBlock = v.ownBlock ∨ ∃ k, v'.ownBlock = some k ∧ w.heap.size ≤ k) := by
  have HC := Lib.hid hC
  have HH := Lib.hid h
  have HU := Lib.hid hk
  clear hC h hk
  unfold rdyV
  have mp := m_push R
  have ml := m_len R
  go_enter Try.func91, Try.ntmps91
  go_wp2_with fail
  refine (pushM_any HH.out hx hn).mono ?_
  rintro e w1 ⟨rfl, v1, h1, g1, p1⟩
  have HS1 := Lib.hid h1
  have HG1 := Lib.hid (And.intro g1 p1)
  clear h1 g1 p1
  go_wp2_with fail
  refine (len_any HS1.out).mono ?_
  rintro e w2 ⟨rfl, rfl⟩
  have e0 : ((n + 1 : Nat) : Int) - 1 = (n : Nat) := by omega
  go_wp2_with fail
  refine (up_any HC.out HS1.out (Nat.lt_succ_self n) (by omega) (upOk_atEnd HU.out)).mono ?_
  rintro e w3 ⟨rfl, f3, h3, k3, m3, g3⟩
  have HS3 := Lib.hid (And.intro h3 (And.intro k3 m3))
  have HG3 := Lib.hid (HG1.out.1.trans g3 (fun x hx => (HG1.out.2).imp (fun e => by rw [← e]; exact hx) (fun ⟨k, e, hk⟩ => by rw [e] at hx; cases hx; exact hk)))
  clear h3 k3 m3 g3
  go_wp2
  go_end0
  exact ⟨⟨_, rfl⟩, _, _, HS3.out.1, HS3.out.2.1, HS3.out.2.2, HG3.out, HG1.out.2⟩

set_option maxRecDepth 100000 in
/-- container/heap.Pop. -/
theorem heapPop_any {ja : Option Addr} {jcap : Nat} {js : List J4} {K : Nat → Nat} {m : Nat} (hC : Cmp w0 cb ja jcap js K) (h : HS w0 R cb js.length w v (m + 1) f) (hn : m ≤ 60) (hk : HeapOk K f (m + 1)) :
    Calls Try.prog 96 #[rdyV R] w fun e w' =>
      SomeV e ∧ ∃ v' f', HS w0 R cb js.length w' v' m f' ∧ HeapOk K f' m ∧ Mixed m (swp f 0 m) f' ∧ Chg R v.ownBlock w w' ∧ v'.ownBlock = v.ownBlock := by
  obtain ⟨g, cap, rfl, -⟩ := h.own.at (Nat.succ_pos m)
  have HC := Lib.hid hC
  have HH := Lib.hid h
  have HU := Lib.hid hk
  clear hC h hk
  unfold rdyV
  have ms := m_swap R
  have ml := m_len R
  have mp := m_pop R
  go_enter Try.func96, Try.ntmps96
  go_wp2_with fail
  refine (len_any HH.out).mono ?_
  rintro e w1 ⟨rfl, rfl⟩
  have e0 : ((m + 1 : Nat) : Int) - 1 = (m : Nat) := by omega
  go_wp2_with fail
  refine (swap_any (i := 0) (j := m) HH.out (Nat.succ_pos m) (Nat.lt_succ_self m)).mono ?_
  rintro e w2 ⟨rfl, h2, g2⟩
  have HS2 := Lib.hid h2
  have HG2 := Lib.hid g2
  clear h2 g2
  go_wp2_with fail
  refine (down_any HC.out HS2.out hn (downOk_start HU.out)).mono ?_
  rintro e w3 ⟨⟨b, rfl⟩, f3, h3, k3, m3, e3, g3⟩
  have HS3 := Lib.hid h3
  have HK3 := Lib.hid (And.intro k3 m3)
  have HG3 := Lib.hid (HG2.out.trans g3 (fun _ h => .inl h))
  clear h3 k3 m3 e3 g3
  go_wp2_with fail
  refine (popM_any HS3.out hn).mono ?_
  rintro e w4 ⟨rfl, h4, g4⟩
  have HS4 := Lib.hid h4
  have HG4 := Lib.hid (HG3.out.trans g4 (fun _ h => .inl h))
  clear h4 g4
  go_wp2
  go_ret
  exact ⟨⟨_, rfl⟩, _, _, HS4.out, HK3.out.1, HK3.out.2, HG4.out, rfl⟩

end Go.Proofs.Ytlagghoohloklaa
