/- Contracts of the program's leastFixedPoint (over the closure of permutation.response), of permutation.response, ResponseTimes and FixedFeasible. Conditions: the slices hold what is said. -/
import Derived.Test.YtlagghoohloklaaOrdImpl
import Derived.Test.YtlagghoohloklaaFixSpec
import Derived.Test.YtlagghoohloklaaDemImpl
import Derived.Test.YtlagghoohloklaaRepeat
import Derived.Laws.EntriesVeiled
namespace Go.Proofs.Ytlagghoohloklaa
open Go.RowKit Go.Deep

/-- The tasks above place k. -/
def abvT (ts : List T3) (os : List Int) (k : Nat) : List T3 := (abv os k).map (tk ts)
theorem abvT_len {ts : List T3} {os : List Int} {k : Nat} (h : k ≤ os.length) : (abvT ts os k).length = k := by rw [abvT, List.length_map, abv_len h]
theorem abvT_succ {ts : List T3} {os : List Int} {k : Nat} (h : k < os.length) : abvT ts os (k + 1) = abvT ts os k ++ [tk ts (os.getD k 0).toNat] := by
  have e : os.getD k 0 = os[k] := by simp [List.getD, List.getElem?_eq_getElem h]
  rw [abvT, abv, List.take_succ_eq_append_getElem h, e, List.map_append, List.map_append]
  rfl
theorem abvT_sv {ts : List T3} {os : List Int} {k : Nat} (h : ordB ts os = true) (hk : k ≤ os.length) : svB (abvT ts os k) = true := by
  have h1 := ordB_iff.1 h
  have h2 := sv_all h1.1
  simp only [svB, Bool.and_eq_true, List.all_eq_true, decide_eq_true_eq]
  refine ⟨fun t ht => ?_, by rw [abvT_len hk]; omega⟩
  obtain ⟨j, hj, rfl⟩ := List.mem_map.1 ht
  exact tk_tv h2.1 (abv_lt h j hj)
theorem abvT_wk (ts : List T3) (x : Nat) : ∀ hs : List Nat, wk (hs.map (tk ts)) x = wkL ts hs x := by
  intro hs
  have key : ∀ (hs : List Nat) (a : Nat), (hs.map (tk ts)).foldl (fun s t => s + wk1 t x) a = a + (hs.map fun h => cl ts h x).sum := by
    intro hs
    induction hs with
    | nil => intro a; simp
    | cons h hs ih => intro a; simp only [List.map_cons, List.foldl_cons, List.sum_cons]; rw [ih]; unfold wk1 cl; omega
  unfold wk wkL
  rw [key]
  omega

/-- What leastFixedPoint returns. -/
def lfpV : Option Nat → Value
  | some r => .tuple #[.int .i64 (r : Int), .bool true]
  | none => .tuple #[.int .i64 0, .bool false]

theorem own_nilT (w : World) (base : Nat) : Own w base (.slice none 0 0) [] := ⟨rfl, .inl ⟨rfl, rfl⟩⟩
theorem KPresp {w' W : World} {b off k y bt ot : Nat} {C D q : Int} (h : w'.cell? ⟨b, off + k, none⟩ = some (.int .i64 (y : Int)) ∧ w'.cell? ⟨bt, ot + y * 3, none⟩ = some (.int .i64 C) ∧ w'.cell? ⟨bt, ot + y * 3 + 1, none⟩ = some (.int .i64 D) ∧ w'.cell? ⟨bt, ot + y * 3 + 2, none⟩ = some (.int .i64 q)) (N : Nat) (hb : b < N) (hbt : bt < N) (B : Below N w' W) :
    W.cell? ⟨b, off + k, none⟩ = some (.int .i64 (y : Int)) ∧ W.cell? ⟨bt, ot + y * 3, none⟩ = some (.int .i64 C) ∧ W.cell? ⟨bt, ot + y * 3 + 1, none⟩ = some (.int .i64 D) ∧ W.cell? ⟨bt, ot + y * 3 + 2, none⟩ = some (.int .i64 q) :=
  ⟨(B.cell (p := ⟨b, off + k, none⟩) hb).trans h.1, (B.cell (p := ⟨bt, ot + y * 3, none⟩) hbt).trans h.2.1, (B.cell (p := ⟨bt, ot + y * 3 + 1, none⟩) hbt).trans h.2.2.1, (B.cell (p := ⟨bt, ot + y * 3 + 2, none⟩) hbt).trans h.2.2.2⟩
theorem rsp_lfp {ts : List T3} {os : List Int} (h : ordB ts os = true) (k : Nat) : lfp (fun x => cst (tk ts (os.getD k 0).toNat) + wk (abvT ts os k) x) (dln (tk ts (os.getD k 0).toNat)) = rspO ts os k := by
  rw [← rsp_list h k]
  congr 1
  funext x
  rw [abvT, abvT_wk]
  rfl


end Go.Proofs.Ytlagghoohloklaa
