/- Contracts of the draws of chapter 7: spec.DrawAssignmentValid, DrawCoreTasks, DrawAssignmentFeasible, DrawFirstFit, DrawPartition, DrawMinCores. What is drawn is not told, only its bounds. Condition: the argument is a slice of bytes. -/
import Derived.Test.YtjmagpfnikhboaaPartDraw
namespace Go.Proofs.Ytjmagpfnikhboaa
open Go.RowKit Go.Deep

theorem row_grownP {w w' : World} {g off rb : Nat} {ts : List T3} (h : Row w (some ⟨g, off, none⟩) ts) (hg : w.grownBy w' (some rb)) (hne : g ≠ rb) : Row w' (some ⟨g, off, none⟩) ts := by
  intro k t hk
  obtain ⟨b, o, e, hb, h0, h1, h2⟩ := h k t hk
  simp only [Option.some.injEq, Addr.mk.injEq, and_true] at e
  obtain ⟨rfl, rfl⟩ := e
  have hn : ∀ j, some (⟨g, j, none⟩ : Addr).block ≠ some rb := fun j => by simpa using hne
  exact ⟨g, off, rfl, Nat.lt_of_lt_of_le hb hg.size, hg.cell h0 (hn _), hg.cell h1 (hn _), hg.cell h2 (hn _)⟩
/-- Four results. -/
theorem results_tmp4 {fn : Func} {t u v x : Tmp} (h : fn.results = #[.tmp t, .tmp u, .tmp v, .tmp x]) (tmps : Array Value) (P : Program) (w : World) :
    (results fn tmps).run P w = .ok (.tuple #[tmps.getD t undef, tmps.getD u undef, tmps.getD v undef, tmps.getD x undef]) w := by
  simp [results, h]
/-- A task set, not nil, and a number of processors were drawn. -/
def GotFF (w : World) (e : Ending) (w' : World) : Prop := ∃ (g cap : Nat) (ts : List T3) (c : Int), e = .returned (.tuple #[.slice (some ⟨g, 0, none⟩) ts.length cap, .int .i64 c]) ∧ ts.length ≤ 12 ∧ ts.length ≤ cap ∧ cap ≤ maxLen ∧ (-1 ≤ c ∧ c ≤ 6) ∧ Row w' (some ⟨g, 0, none⟩) ts ∧ Below w.heap.size w w'
/-- .. and an assignment. -/
def GotAs (w : World) (e : Ending) (w' : World) : Prop := ∃ (g cap : Nat) (ts : List T3) (c : Int) (va : Option Addr) (ocap : Nat) (os : List Int), e = .returned (.tuple #[.slice (some ⟨g, 0, none⟩) ts.length cap, .int .i64 c, .slice va os.length ocap]) ∧ ts.length ≤ 12 ∧ ts.length ≤ cap ∧ cap ≤ maxLen ∧ (-1 ≤ c ∧ c ≤ 6) ∧ os.length ≤ 13 ∧ Row w' (some ⟨g, 0, none⟩) ts ∧ OwnI w' w.heap.size (.slice va os.length ocap) os.length (fun k => os.getD k 0) ∧ Below w.heap.size w w'
/-- .. and a processor. -/
def GotCT (w : World) (e : Ending) (w' : World) : Prop := ∃ (g cap : Nat) (ts : List T3) (c : Int) (va : Option Addr) (ocap : Nat) (os : List Int) (d : Int), e = .returned (.tuple #[.slice (some ⟨g, 0, none⟩) ts.length cap, .int .i64 c, .slice va os.length ocap, .int .i64 d]) ∧ ts.length ≤ 12 ∧ ts.length ≤ cap ∧ cap ≤ maxLen ∧ (-1 ≤ c ∧ c ≤ 6) ∧ os.length ≤ 13 ∧ (-1 ≤ d ∧ d ≤ 8) ∧ Row w' (some ⟨g, 0, none⟩) ts ∧ OwnI w' w.heap.size (.slice va os.length ocap) os.length (fun k => os.getD k 0) ∧ Below w.heap.size w w'

set_option maxRecDepth 100000 in
set_option maxHeartbeats 2000000 in
/-- spec.DrawFirstFit. -/
theorem drawFirstFit_any (a : Option Addr) (len cap : Nat) (w : World) (hb : Byts w a len cap) :
    Calls Try.prog 25 #[.slice a len cap] w (GotFF w) := by
  obtain ⟨hb, hc, hm⟩ := hb
  have HB := Lib.hid hb
  clear hb
  go_enter Try.func25, Try.ntmps25
  go_wp2_with fail
  refine (l20Open_any _ _ _ _ HB.out hc hm).mono ?_
  rintro e w1 ⟨rfl, hr, hb1, hs1⟩
  have HR := Lib.hid hr
  clear hr
  go_wp2_with fail
  refine (l20Set_full w.heap.size 0 16 _ HR.out (by omega)).mono ?_
  rintro e w2 ⟨a2, cap2, ts, rfl, hlen, hlc, hcm, hrow, hg, hr2, ⟨g, rfl, hgg⟩, _⟩
  have HW := Lib.hid hrow
  have HR2 := Lib.hid hr2
  have hrl := hr2.lt
  have B2 := Lib.hid (hb1.trans (gb_to_below hg (Nat.le_refl _) hb1.size))
  clear hrow hr2
  have hgne : g ≠ w.heap.size := by have := HR.out.lt; omega
  clear hb1 hg hs1 hgg
  go_wp2_with fail
  refine (l20Cores_any w.heap.size 200 12 _ HR2.out (by omega)).mono ?_
  rintro e w3 ⟨c, rfl, hc3, hg3, hr3⟩
  have HG3 := Lib.hid hg3
  have HR3 := Lib.hid hr3
  have hrl3 := hr3.lt
  clear hg3 hr3 HR2
  go_wp2
  go_ret2
  exact ⟨g, cap2, ts, c, rfl, hlen, hlc, hcm, hc3, row_grownP HW.out HG3.out hgne, B2.out.trans (gb_to_below HG3.out (Nat.le_refl _) B2.out.size)⟩

/-- spec.DrawPartition. -/
theorem drawPartition_any (a : Option Addr) (len cap : Nat) (w : World) (hb : Byts w a len cap) :
    Calls Try.prog 29 #[.slice a len cap] w (GotFF w) := by
  have HB := Lib.hid hb
  clear hb
  go_enter Try.func29, Try.ntmps29
  go_wp2_with fail
  refine (drawFirstFit_any _ _ _ _ HB.out).mono ?_
  rintro e w1 ⟨g, cap2, ts, c, rfl, hlen, hlc, hcm, hc3, hr, hb1⟩
  have HR := Lib.hid hr
  clear hr
  go_wp2
  go_ret2
  exact ⟨g, cap2, ts, c, rfl, hlen, hlc, hcm, hc3, HR.out, hb1⟩

set_option maxRecDepth 100000 in
set_option maxHeartbeats 2000000 in
/-- spec.DrawAssignmentValid. -/
theorem drawAssignmentValid_any (a : Option Addr) (len cap : Nat) (w : World) (hb : Byts w a len cap) :
    Calls Try.prog 12 #[.slice a len cap] w (GotAs w) := by
  obtain ⟨hb, hc, hm⟩ := hb
  have HB := Lib.hid hb
  clear hb
  go_enter Try.func12, Try.ntmps12
  go_wp2_with fail
  refine (l20Open_any _ _ _ _ HB.out hc hm).mono ?_
  rintro e w1 ⟨rfl, hr, hb1, hs1⟩
  have HR := Lib.hid hr
  clear hr
  go_wp2_with fail
  refine (l20Set_full w.heap.size 0 16 _ HR.out (by omega)).mono ?_
  rintro e w2 ⟨a2, cap2, ts, rfl, hlen, hlc, hcm, hrow, hg, hr2, ⟨g, rfl, hgg⟩, _⟩
  have HW := Lib.hid hrow
  have HR2 := Lib.hid hr2
  have hrl := hr2.lt
  have B2 := Lib.hid (hb1.trans (gb_to_below hg (Nat.le_refl _) hb1.size))
  clear hrow hr2
  have hgne : g ≠ w.heap.size := by have := HR.out.lt; omega
  clear hb1 hg hs1 hgg
  go_wp2_with fail
  refine (l20Cores_any w.heap.size 200 12 _ HR2.out (by omega)).mono ?_
  rintro e w3 ⟨c, rfl, hc3, hg3, hr3⟩
  have HG3 := Lib.hid hg3
  have HR3 := Lib.hid hr3
  have hrl3 := hr3.lt
  clear hg3 hr3 HR2
  go_wp2_with fail
  refine (l20Assign_any w.heap.size 202 ts.length c 2 _ HR3.out (by omega) hlen hc3).mono ?_
  rintro e w4 ⟨s, o, rfl, hT, ho⟩
  obtain ⟨va, ocap, rfl⟩ := own_shape hT.ow
  have HT := Lib.hid hT
  clear hT HR3
  go_wp2
  go_ret3
  exact ⟨g, cap2, ts, c, va, ocap, o, rfl, hlen, hlc, hcm, hc3, ho, row_grownP HW.out (gb_trans HG3.out HT.out.gb) hgne, HT.out.ow.mono (Nat.le_trans B2.out.size HG3.out.size), B2.out.trans (gb_to_below (gb_trans HG3.out HT.out.gb) (Nat.le_refl _) B2.out.size)⟩

set_option maxRecDepth 100000 in
set_option maxHeartbeats 2000000 in
/-- spec.DrawAssignmentFeasible. -/
theorem drawAssignmentFeasible_any (a : Option Addr) (len cap : Nat) (w : World) (hb : Byts w a len cap) :
    Calls Try.prog 21 #[.slice a len cap] w (GotAs w) := by
  obtain ⟨hb, hc, hm⟩ := hb
  have HB := Lib.hid hb
  clear hb
  go_enter Try.func21, Try.ntmps21
  go_wp2_with fail
  refine (l20Open_any _ _ _ _ HB.out hc hm).mono ?_
  rintro e w1 ⟨rfl, hr, hb1, hs1⟩
  have HR := Lib.hid hr
  clear hr
  go_wp2_with fail
  refine (l20Set_full w.heap.size 0 20 _ HR.out (by omega)).mono ?_
  rintro e w2 ⟨a2, cap2, ts, rfl, hlen, hlc, hcm, hrow, hg, hr2, ⟨g, rfl, hgg⟩, _⟩
  have HW := Lib.hid hrow
  have HR2 := Lib.hid hr2
  have hrl := hr2.lt
  have B2 := Lib.hid (hb1.trans (gb_to_below hg (Nat.le_refl _) hb1.size))
  clear hrow hr2
  have hgne : g ≠ w.heap.size := by have := HR.out.lt; omega
  clear hb1 hg hs1 hgg
  go_wp2_with fail
  refine (l20Cores_any w.heap.size 200 16 _ HR2.out (by omega)).mono ?_
  rintro e w3 ⟨c, rfl, hc3, hg3, hr3⟩
  have HG3 := Lib.hid hg3
  have HR3 := Lib.hid hr3
  have hrl3 := hr3.lt
  clear hg3 hr3 HR2
  go_wp2_with fail
  refine (l20Assign_any w.heap.size 202 ts.length c 12 _ HR3.out (by omega) hlen hc3).mono ?_
  rintro e w4 ⟨s, o, rfl, hT, ho⟩
  obtain ⟨va, ocap, rfl⟩ := own_shape hT.ow
  have HT := Lib.hid hT
  clear hT HR3
  go_wp2
  go_ret3
  exact ⟨g, cap2, ts, c, va, ocap, o, rfl, hlen, hlc, hcm, hc3, ho, row_grownP HW.out (gb_trans HG3.out HT.out.gb) hgne, HT.out.ow.mono (Nat.le_trans B2.out.size HG3.out.size), B2.out.trans (gb_to_below (gb_trans HG3.out HT.out.gb) (Nat.le_refl _) B2.out.size)⟩

set_option maxRecDepth 100000 in
set_option maxHeartbeats 2000000 in
/-- spec.DrawCoreTasks. -/
theorem drawCoreTasks_any (a : Option Addr) (len cap : Nat) (w : World) (hb : Byts w a len cap) :
    Calls Try.prog 17 #[.slice a len cap] w (GotCT w) := by
  obtain ⟨hb, hc, hm⟩ := hb
  have HB := Lib.hid hb
  clear hb
  go_enter Try.func17, Try.ntmps17
  go_wp2_with fail
  refine (l20Open_any _ _ _ _ HB.out hc hm).mono ?_
  rintro e w1 ⟨rfl, hr, hb1, hs1⟩
  have HR := Lib.hid hr
  clear hr
  go_wp2_with fail
  refine (l20Set_full w.heap.size 0 20 _ HR.out (by omega)).mono ?_
  rintro e w2 ⟨a2, cap2, ts, rfl, hlen, hlc, hcm, hrow, hg, hr2, ⟨g, rfl, hgg⟩, _⟩
  have HW := Lib.hid hrow
  have HR2 := Lib.hid hr2
  have hrl := hr2.lt
  have B2 := Lib.hid (hb1.trans (gb_to_below hg (Nat.le_refl _) hb1.size))
  clear hrow hr2
  have hgne : g ≠ w.heap.size := by have := HR.out.lt; omega
  clear hb1 hg hs1 hgg
  go_wp2_with fail
  refine (l20Cores_any w.heap.size 200 16 _ HR2.out (by omega)).mono ?_
  rintro e w3 ⟨c, rfl, hc3, hg3, hr3⟩
  have HG3 := Lib.hid hg3
  have HR3 := Lib.hid hr3
  have hrl3 := hr3.lt
  clear hg3 hr3 HR2
  go_wp2_with fail
  refine (l20Assign_any w.heap.size 202 ts.length c 16 _ HR3.out (by omega) hlen hc3).mono ?_
  rintro e w4 ⟨s, o, rfl, hT, ho⟩
  obtain ⟨va, ocap, rfl⟩ := own_shape hT.ow
  have HT := Lib.hid hT
  clear hT HR3
  have HTR := Lib.hid HT.out.rd
  go_wp2_with fail
  refine (pick_any w.heap.size 222 (c + 2) _ HTR.out (by omega)).mono ?_
  rintro e w5 ⟨u, rfl, u0, u1, u2, hg5, hr5⟩
  have hu : u ≤ 7 := by
    by_cases h : 1 ≤ c + 2
    · have := u1 h; omega
    · have := u2 (by omega); omega
  have HG5 := Lib.hid hg5
  have HT5 := Lib.hid ((HT.out.pick hg5 hr5).ow)
  clear hg5 hr5 u1 u2
  go_wp2
  ((try simp only [Exit.inBlock, Exit.then]); refine bodyPost_ret (results_tmp4 rfl _ _ _) rfl ?_)
  exact ⟨g, cap2, ts, c, va, ocap, o, u - 1, rfl, hlen, hlc, hcm, hc3, ho, by omega, row_grownP HW.out (gb_trans (gb_trans HG3.out HT.out.gb) HG5.out) hgne, HT5.out.mono (Nat.le_trans B2.out.size HG3.out.size), B2.out.trans (gb_to_below (gb_trans (gb_trans HG3.out HT.out.gb) HG5.out) (Nat.le_refl _) B2.out.size)⟩

set_option maxRecDepth 100000 in
/-- spec.DrawMinCores. -/
theorem drawMinCores_any (a : Option Addr) (len cap : Nat) (w : World) (hb : Byts w a len cap) :
    Calls Try.prog 32 #[.slice a len cap] w (GotSet w) := by
  obtain ⟨hb, hc, hm⟩ := hb
  have HB := Lib.hid hb
  clear hb
  go_enter Try.func32, Try.ntmps32
  go_wp2_with fail
  refine (l20Open_any _ _ _ _ HB.out hc hm).mono ?_
  rintro e w1 ⟨rfl, hr, hb1, hs1⟩
  clear hs1
  have HR := Lib.hid hr
  clear hr
  go_wp2_with fail
  refine (l20Set_any w.heap.size 0 12 _ HR.out (by omega)).mono ?_
  rintro e w2 ⟨a2, cap2, ts, rfl, hlen, hlc, hcm, hrow, hg, _⟩
  have HW := Lib.hid hrow
  clear hrow
  go_wp2
  go_ret
  exact ⟨a2, cap2, ts, rfl, hlen, hlc, hcm, HW.out, hb1.trans (gb_to_below hg (Nat.le_refl _) hb1.size)⟩

end Go.Proofs.Ytjmagpfnikhboaa
