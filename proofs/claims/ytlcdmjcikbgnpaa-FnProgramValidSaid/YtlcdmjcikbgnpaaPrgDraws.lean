/- Contracts of the draws of chapter 8: spec.DrawProgramValid, DrawWcet, DrawBcet, DrawWorstChoices, DrawRunProgram. What is drawn is not told, only its bounds. Condition: the argument is a slice of bytes. -/
import Derived.Test.YtlcdmjcikbgnpaaPrgDraw
import Derived.Test.YtlcdmjcikbgnpaaPrgWst
namespace Go.Proofs.Ytlcdmjcikbgnpaa
open Go.RowKit Go.Deep

/-- A program was drawn. -/
def GotP (w : World) (e : Ending) (w' : World) : Prop := ∃ (s : Value) (ps : List N5), e = .returned s ∧ ps.length ≤ 13 ∧ OwnN w' w.heap.size s ps ∧ Below w.heap.size w w'
/-- .. and choices. -/
def GotPC (w : World) (e : Ending) (w' : World) : Prop := ∃ (s v : Value) (ps : List N5) (cs : List Int), e = .returned (.tuple #[s, v]) ∧ ps.length ≤ 13 ∧ cs.length ≤ 40 ∧ (∀ c ∈ cs, -9223372036854775808 ≤ c ∧ c ≤ 9223372036854775807) ∧ OwnN w' w.heap.size s ps ∧ OwnC w' w.heap.size v cs ∧ Below w.heap.size w w'

set_option maxRecDepth 100000 in
set_option maxHeartbeats 2000000 in
/-- spec.DrawProgramValid. -/
theorem drawProgramValid_any (a : Option Addr) (len cap : Nat) (w : World) (hb : Byts w a len cap) :
    Calls Try.prog 13 #[.slice a len cap] w (GotP w) := by
  obtain ⟨hb, hc, hm⟩ := hb
  have HB := Lib.hid hb
  clear hb
  go_enter Try.func13, Try.ntmps13
  go_wp2_with fail
  refine (l20Open_any _ _ _ _ HB.out hc hm).mono ?_
  rintro e w1 ⟨rfl, hr, hb1, hs1⟩
  have HR := Lib.hid hr
  clear hr
  go_wp2_with fail
  refine (l20Prog_any w.heap.size 0 2 _ HR.out (by omega)).mono ?_
  rintro e w2 ⟨s, ps, rfl, hT, hlen⟩
  have T2 := Lib.hid hT
  have B1 := Lib.hid hb1
  clear hT hb1 hs1
  go_wp2
  go_ret
  exact ⟨s, ps, rfl, hlen, T2.out.ow.mono B1.out.size, B1.out.trans (gb_to_below T2.out.gb (Nat.le_refl _) B1.out.size)⟩

set_option maxRecDepth 100000 in
set_option maxHeartbeats 2000000 in
/-- spec.DrawBcet. -/
theorem drawBcet_any (a : Option Addr) (len cap : Nat) (w : World) (hb : Byts w a len cap) :
    Calls Try.prog 28 #[.slice a len cap] w (GotP w) := by
  obtain ⟨hb, hc, hm⟩ := hb
  have HB := Lib.hid hb
  clear hb
  go_enter Try.func28, Try.ntmps28
  go_wp2_with fail
  refine (l20Open_any _ _ _ _ HB.out hc hm).mono ?_
  rintro e w1 ⟨rfl, hr, hb1, hs1⟩
  have HR := Lib.hid hr
  clear hr
  go_wp2_with fail
  refine (l20Prog_any w.heap.size 0 9 _ HR.out (by omega)).mono ?_
  rintro e w2 ⟨s, ps, rfl, hT, hlen⟩
  have T2 := Lib.hid hT
  have B1 := Lib.hid hb1
  clear hT hb1 hs1
  go_wp2
  go_ret
  exact ⟨s, ps, rfl, hlen, T2.out.ow.mono B1.out.size, B1.out.trans (gb_to_below T2.out.gb (Nat.le_refl _) B1.out.size)⟩

set_option maxRecDepth 100000 in
set_option maxHeartbeats 2000000 in
/-- spec.DrawWorstChoices. -/
theorem drawWorstChoices_any (a : Option Addr) (len cap : Nat) (w : World) (hb : Byts w a len cap) :
    Calls Try.prog 22 #[.slice a len cap] w (GotP w) := by
  obtain ⟨hb, hc, hm⟩ := hb
  have HB := Lib.hid hb
  clear hb
  go_enter Try.func22, Try.ntmps22
  go_wp2_with fail
  refine (l20Open_any _ _ _ _ HB.out hc hm).mono ?_
  rintro e w1 ⟨rfl, hr, hb1, hs1⟩
  have HR := Lib.hid hr
  clear hr
  go_wp2_with fail
  refine (l20Prog_any w.heap.size 0 9 _ HR.out (by omega)).mono ?_
  rintro e w2 ⟨s, ps, rfl, hT, hlen⟩
  have T2 := Lib.hid hT
  have B1 := Lib.hid hb1
  clear hT hb1 hs1
  go_wp2
  go_ret
  exact ⟨s, ps, rfl, hlen, T2.out.ow.mono B1.out.size, B1.out.trans (gb_to_below T2.out.gb (Nat.le_refl _) B1.out.size)⟩

/-- A slice of choices that a function has grown by itself, while it reads the code's bytes. -/
structure NC (rb : Nat) (w wr : World) (q : Nat) (v : Value) (cs : List Int) : Prop where
  gb : w.grownBy wr (some rb)
  rd : Rd wr rb q
  ow : OwnC wr w.heap.size v cs
  rl : rb < w.heap.size
theorem NC.pick {rb q q' : Nat} {w wr w' : World} {s : Value} {cs : List Int} (h : NC rb w wr q s cs) (hg : wr.grownBy w' (some rb)) (hr : Rd w' rb q') : NC rb w w' q' s cs :=
  ⟨gb_trans h.gb hg, hr, ⟨World.ownsRow.kept h.ow.1 hg (by
    cases e : s.ownBlock with
    | none => exact .inl rfl
    | some k => exact .inr (fun h2 => by have := (h.ow.1.lt k e).1; have := h.rl; simp only [Option.some.injEq] at h2; omega)), h.ow.2⟩, h.rl⟩
theorem NC.more {rb q q' : Nat} {w wr : World} {s : Value} {cs : List Int} (h : NC rb w wr q s cs) (hq : q ≤ q') : NC rb w wr q' s cs := { h with rd := h.rd.mono hq }
theorem NC.alloc {rb q : Nat} {w wr : World} {s : Value} {cs : List Int} (h : NC rb w wr q s cs) (x : Obj) : NC rb w (wr.alloc x) q s cs := h.pick (gb_below (below_box _ _)) (h.rd.alloc _)
theorem NC.push {rb q : Nat} {w wr w' : World} {s v' : Value} {cs : List Int} {x : Int} (h : NC rb w wr q s cs) (ho : w'.ownsRow w.heap.size 3 1 v' (cs.length + 1) (vals (fun k => cs.getD k 0) cs.length ++ [.int .i64 x])) (hg : wr.grownBy w' s.ownBlock) (hnil : v' = .slice none 0 0 ↔ s = .slice none 0 0 ∧ 1 = 0) :
    NC rb w w' q v' (cs ++ [x]) := by
  have hl := h.rl
  have hs := h.gb.size
  have hr : ∀ k, s.ownBlock = some k → w.heap.size ≤ k := fun k hk => (h.ow.1.lt k hk).1
  refine ⟨⟨hg.os.trans h.gb.os, hg.tape.trans h.gb.tape, hg.output.trans h.gb.output, Nat.le_trans hs hg.size, fun k hk hne => ?_⟩, h.rd.kept hg.size fun i hi => hg.block i (by omega) fun e => by have := hr i e.symm; omega, OwnC.app (ds := [x]) ho hnil h.ow.2, h.rl⟩
  exact (hg.block k (by omega) fun e => by have := hr k e.symm; omega).trans (h.gb.block k hk hne)
theorem wrap_in (x : Int) : -9223372036854775808 ≤ IntKind.i64.wrap x ∧ IntKind.i64.wrap x ≤ 9223372036854775807 := by rw [IntKind.wrap_i64]; omega
set_option maxRecDepth 100000 in
set_option maxHeartbeats 2000000 in
/-- spec.DrawRunProgram. -/
theorem drawRunProgram_any (a : Option Addr) (len cap : Nat) (w : World) (hb : Byts w a len cap) :
    Calls Try.prog 17 #[.slice a len cap] w (GotPC w) := by
  obtain ⟨hb, hc, hm⟩ := hb
  have HB := Lib.hid hb
  clear hb
  go_enter Try.func17, Try.ntmps17
  go_wp2_with fail
  refine (l20Open_any _ _ _ _ HB.out hc hm).mono ?_
  rintro e w1 ⟨rfl, hr, hb1, hs1⟩
  have HR := Lib.hid hr
  clear hr
  go_wp2_with fail
  refine (l20Prog_any w.heap.size 0 12 _ HR.out (by omega)).mono ?_
  rintro e w2 ⟨s, ps, rfl, hT, hlen⟩
  have T2 := Lib.hid hT
  have B1 := Lib.hid hb1
  obtain ⟨i0, xi, xz, xsz, xby⟩ := info_parts intInfo
  have HI := Lib.hid (And.intro xi (And.intro xz (And.intro xsz xby)))
  clear xi xz xsz xby hT hb1 hs1
  go_wp2_with fail
  refine (pick_any w.heap.size _ 40 _ (T2.out.rd.alloc _) (by omega)).mono ?_
  rintro e w3 ⟨v, rfl, v0, v1, -, hg, hr⟩
  obtain ⟨K, rfl⟩ : ∃ K : Nat, v = K := ⟨v.toNat, (Int.toNat_of_nonneg v0).symm⟩
  have hK : K < 40 := by have := v1 (by omega); omega
  have T3 := Lib.hid (show NC w.heap.size w2 w3 61 (.slice (some ⟨w2.heap.size, 0, none⟩) 0 0) [] from
    (NC.mk (gb_below (below_box w2 (.cells #[] 3))) (T2.out.rd.alloc _) (OwnC.empty w2) T2.out.rd.lt : NC w.heap.size w2 _ _ _ []).pick hg (hr.mono (by omega)))
  clear hg hr v1
  go_wp2_with fail
  go_loopg [6, 7] K (fun q s z wr => ∃ cs : List Int, z = .int .i64 (q : Nat) ∧ q + cs.length = K ∧ (∀ c ∈ cs, -9223372036854775808 ≤ c ∧ c ≤ 9223372036854775807) ∧ NC w.heap.size w2 wr (61 + 3 * cs.length) s cs)
  case atStart => exact ⟨[], rfl, rfl, by simp, T3.out⟩
  case round =>
    obtain ⟨cs, rfl, hq, hall, hT⟩ := hrel
    have HQ := Lib.hid hq
    have HA := Lib.hid hall
    have T := Lib.hid hT
    have hgk : gk ≤ 40 := by omega
    have hcl : cs.length ≤ 40 := by omega
    obtain ⟨ca, cc, rfl⟩ := own_shape hT.ow.1
    clear hq hT hall
    by_cases h0 : 0 < gk
    · have h0' : (0 : Int) < gk := by omega
      go_wp2_with fail
      refine (pick_any w.heap.size _ 9 _ T.out.rd (by omega)).mono ?_
      rintro e y1 ⟨p1, rfl, p10, p11, -, hg, hr⟩
      have hp1 : p1 < 9 := p11 (by omega)
      have T4 := Lib.hid (T.out.pick hg hr)
      clear hg hr p11 T
      go_wp2_with fail
      refine (pick_any w.heap.size _ 9 _ T4.out.rd (by omega)).mono ?_
      rintro e y2 ⟨p2, rfl, p20, p21, -, hg, hr⟩
      have hp2 : p2 < 9 := p21 (by omega)
      have T5 := Lib.hid (T4.out.pick hg hr)
      have hl5 := hr.lt
      clear hg hr p21 T4
      go_wp2_with fail
      refine (pick_any w.heap.size _ 9 _ ((T5.out.alloc _).alloc _).rd (by omega)).mono ?_
      rintro e y3 ⟨z, rfl, z0, z1, -, hg, hr⟩
      have hz9 : z < 9 := z1 (by omega)
      have T6 := Lib.hid (((T5.out.alloc _).alloc _).pick hg hr)
      obtain ⟨S, hS, hcS⟩ := ints_new (j := z.toNat) [0, 0, 0, 0, 0, 0, 1, 2, 3] hg (by simp; omega) (by simp; omega)
      have hS4 : 0 ≤ S ∧ S < 4 := by simp at hS; omega
      obtain ⟨hS0, hS1⟩ := hS4
      obtain ⟨P, hP, hcP⟩ := ints_new (j := S.toNat) [p1, -p2, 9223372036854775807, -9223372036854775808] (gb_trans (gb_below (below_box _ _)) hg) hl5 (by simp; omega)
      have HPB := Lib.hid (show -9223372036854775808 ≤ P ∧ P ≤ 9223372036854775807 by simp at hP; omega)
      have hs1 : (y2.alloc (.cells #[.int .i64 p1, .int .i64 (-p2), .int .i64 9223372036854775807, .int .i64 (-9223372036854775808)] 3)).heap.size = y2.heap.size + 1 := by simp
      rw [hs1] at hcS
      clear hg hr z1 T5 hS hP hs1
      go_wp2_with (at_builtin; refine wpList_append_own _ rfl (.tmp 19) (.tmp 33) 30 rfl w2.heap.size 3 i0 _ 1 8 Try.underlying30 HI.out.1 HI.out.2.1 HI.out.2.2.1 HI.out.2.2.2 rfl (by decide) _ cs.length (vals (fun k => cs.getD k 0) cs.length) rfl (T6.out.alloc _).ow.1 ⟨y3.heap.size, 0, none⟩ 1 1 [.int .i64 P] rfl rfl (news1 _ _ _) (one1 _) (by unfold maxLen; omega) (by omega) (T6.out.alloc _).gb.size ?_; intro v' w' hown' hgrow hnil; have T9 := Lib.hid ((T6.out.alloc _).push hown' hgrow (hnil.trans ⟨fun h => ⟨h.1, h.2⟩, fun h => ⟨h.1, h.2⟩⟩)); clear hown' hgrow hnil)
      go_roundg (gk - 1)
      case measure => omega
      case rel => exact ⟨cs ++ [P], by go_num, by have := HQ.out; rw [List.length_append]; simp; omega, fun c hc => (List.mem_append.1 hc).elim (HA.out c) (fun e => by obtain rfl : c = P := (by simpa using e); exact HPB.out), T9.out.more (by rw [List.length_append]; simp; omega)⟩
    · obtain rfl : gk = 0 := by omega
      have T9 := Lib.hid (T2.out.pick T.out.gb T.out.rd)
      go_wp2
      go_ret2
      exact ⟨s, _, ps, cs, rfl, hlen, by omega, HA.out, T9.out.ow.mono B1.out.size, T.out.ow.mono (Nat.le_trans B1.out.size T2.out.gb.size), B1.out.trans (gb_to_below T9.out.gb (Nat.le_refl _) B1.out.size)⟩

end Go.Proofs.Ytlcdmjcikbgnpaa
