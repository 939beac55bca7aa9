/- What the program's functions of chapter 8 are asked to do, as one condition that the walks of the laws take. No dump but the numbers of the functions. -/
import Derived.Test.YtlcdmjcikbgnpaaPrgDraws
namespace Go.Proofs.Ytlcdmjcikbgnpaa
open Go.RowKit Go.Deep

/-- The program's ProgramValid, Wcet, Bcet, RunProgram and WorstChoices answer as the reference does. -/
structure Impl8 : Prop where
  valid : ∀ (a : Option Addr) (cap : Nat) (ps : List N5) (w : World), RowN w a ps → ps.length ≤ 1099511627776 → Calls Try.prog 14 #[.slice a ps.length cap] w fun e w' => e = .returned (.bool (pvB ps)) ∧ Below w.heap.size w w'
  wcet : ∀ (a : Option Addr) (cap : Nat) (ps : List N5) (w : World), RowN w a ps → ps.length ≤ 1099511627776 → Calls Try.prog 20 #[.slice a ps.length cap] w fun e w' => e = .returned (.int .i64 (bd8 true ps)) ∧ Below w.heap.size w w'
  bcet : ∀ (a : Option Addr) (cap : Nat) (ps : List N5) (w : World), RowN w a ps → ps.length ≤ 1099511627776 → Calls Try.prog 21 #[.slice a ps.length cap] w fun e w' => e = .returned (.int .i64 (bd8 false ps)) ∧ Below w.heap.size w w'
  run : ∀ (a : Option Addr) (cap : Nat) (ps : List N5) (v : Value) (cs : List Int) (w : World), RowN w a ps → ChF w v cs → ps.length ≤ 1099511627776 → cs.length ≤ 1099511627776 → Calls Try.prog 18 #[.slice a ps.length cap, v] w fun e w' => e = .returned (.int .i64 (ex8 ps cs)) ∧ Below w.heap.size w w'
  worst : ∀ (a : Option Addr) (cap : Nat) (ps : List N5) (w : World), RowN w a ps → ps.length ≤ 1099511627776 → Calls Try.prog 23 #[.slice a ps.length cap] w fun e w' => ∃ v', e = .returned v' ∧ OwnI w' w.heap.size v' (wh8 ps).length (fun k => (wh8 ps).getD k 0) ∧ Below w.heap.size w w'

end Go.Proofs.Ytlcdmjcikbgnpaa
