/- Contract of the program's RunProgram. Conditions: the slices hold what is said; at most 2^40 nodes. -/
import Derived.Test.YtlcdmjcikbgnpaaPrgRunI
namespace Go.Proofs.Ytlcdmjcikbgnpaa
open Go.RowKit Go.Deep

theorem calls_eg {P : Program} {f : FuncId} {fn : Func} {c : Code} (hf : P.funcs[f]? = some fn) (hname : (fn.name == "runtime.NumGoroutine") = false) (hb : fn.body = some c) (args : Array Value) (w : World) : (callFunc f args).run P w = .ok (.enter f args) w := by
  have h1 : fn.name ≠ "runtime.NumGoroutine" := by simpa using hname
  simp [callFunc, hf, h1, hb]

/-- What RunProgram's closure keeps: how many choices it has taken. Block nB holds that number, block p2 the slice of the choices; all below nB is as in w0. -/
def TkSt (w0 : World) (nB p2 : Nat) (v : Value) (cs : List Int) (w : World) (sb : Nat) (s : List Int) : Prop :=
  sb = nB ∧ nB < w.heap.size ∧ w0.heap.size = nB ∧ p2 < nB ∧ (∀ b, b < nB → w.heap[b]? = w0.heap[b]?) ∧ w0.cell? ⟨p2, 0, none⟩ = some v ∧ ChF w0 v cs ∧ ∃ n : Nat, n ≤ cs.length ∧ s = cs.drop n ∧ w.cell? ⟨nB, 0, none⟩ = some (.int .i64 (n : Int)) ∧ w.frozen? ⟨nB, 0, none⟩ = false

set_option maxRecDepth 100000 in
set_option maxHeartbeats 2000000 in
/-- impl.RunProgram's closure. -/
theorem runClosure_any (w0 : World) (nB p2 : Nat) (v : Value) (cs : List Int) (w : World) (sb : Nat) (s : List Int) (hs : TkSt w0 nB p2 v cs w sb s) (hn : cs.length ≤ 1099511627776) (i m : Nat) (h1 : 1 ≤ m) (h5 : m ≤ 5) :
    Calls Try.prog 46 #[.int .i64 (i : Int), .int .i64 (m : Int), .pointer (some ⟨nB, 0, none⟩), .pointer (some ⟨p2, 0, none⟩)] w fun e w' =>
      ∃ sb', e = .returned (.int .i64 ((tk8 m s).1 : Nat)) ∧ TkSt w0 nB p2 v cs w' sb' (tk8 m s).2 ∧ ChgP (fun b => b = nB ∨ b = sb) w w' ∧ (sb' = sb ∨ w.heap.size ≤ sb') := by
  obtain ⟨rfl, hz, hz0, hp2, hk, hc, hch, n, hnl, rfl, c0, f0⟩ := hs
  obtain ⟨ca, cap, rfl, hcap, hci⟩ := hch
  have HCI := Lib.hid hci
  have HK := Lib.hid hk
  have HC := Lib.hid hc
  have HZ0 := Lib.hid hz0
  have HCAP := Lib.hid hcap
  have q0 : w.cell? ⟨p2, 0, none⟩ = some (.slice ca cs.length cap) := (World.cell?_of_block (a := ⟨p2, 0, none⟩) (hk p2 hp2)).trans hc
  clear hci hk hc hz0 hcap
  by_cases hnn : n = cs.length
  · subst hnn
    have HR := Lib.hid (show tk8 m (cs.drop cs.length) = (0, []) by rw [List.drop_length]; rfl)
    go_enter Try.func46, Try.ntmps46
    go_wp2
    go_ret
    rw [HR.out]
    exact ⟨sb, rfl, ⟨rfl, hz, HZ0.out, hp2, HK.out, HC.out, ⟨ca, cap, rfl, HCAP.out, HCI.out⟩, cs.length, Nat.le_refl _, by simp, c0, f0⟩, ChgP.refl _ _, .inl rfl⟩
  · have hlt : n < cs.length := by omega
    obtain ⟨b, off, rfl, hb, y0⟩ := HCI.out n hlt
    have hb2 : b < sb := by have := HZ0.out; omega
    have y1 : w.cell? ⟨b, off + n, none⟩ = some (.int .i64 (cs.getD n 0)) := (World.cell?_of_block (a := ⟨b, off + n, none⟩) (HK.out b hb2)).trans y0
    obtain ⟨c, hc⟩ : ∃ c, c = cs.getD n 0 := ⟨_, rfl⟩
    have HR := Lib.hid (show tk8 m (cs.drop n) = ((c % (m : Int)).toNat, cs.drop (n + 1)) by
      rw [List.drop_eq_getElem_cons hlt, hc]
      simp only [tk8, List.getD_eq_getElem?_getD, List.getElem?_eq_getElem hlt, Option.getD_some]
      rfl)
    rw [← hc] at y1
    have hE := Int.emod_nonneg c (show (m : Int) ≠ 0 by omega)
    have HT := Lib.hid (show ((c % (m : Int)).toNat : Int) = c % (m : Int) from Int.toNat_of_nonneg hE)
    have hne : ((n : Int) == (cs.length : Int)) = false := by simp; omega
    have hn0 : (0 : Int) ≤ n := by omega
    have hn1 : (n : Int) < cs.length := by omega
    have hw : IntKind.i64.wrap ((n : Int) + 1) = (n : Int) + 1 := IntWalk.i64_in _ (by omega)
    clear hc hE y0 hnn hlt
    go_enter Try.func46, Try.ntmps46
    go_wp2_with (go_at_call 47; refine (nonNegativeRest_any c m h1 h5 _).mono ?_; rintro e w1 ⟨rfl, rfl⟩)
    go_ret
    rw [HR.out]
    refine ⟨sb, ret_int HT.out.symm, ⟨rfl, by simpa using hz, HZ0.out, hp2, fun x hx => ?_, HC.out, ⟨_, cap, rfl, HCAP.out, HCI.out⟩, n + 1, by omega, rfl, by go_simp, by go_simp⟩, ChgP.set w ⟨sb, 0, none⟩ _ (.inl rfl), .inl rfl⟩
    rw [← HK.out x hx]
    simp [World.setCell, Array.getElem?_modify, show sb ≠ x by omega]

theorem tkSt_keep {w0 w w' : World} {nB p2 sb B0 : Nat} {v : Value} {cs s : List Int} (hs : TkSt w0 nB p2 v cs w sb s) (hz : w.heap.size ≤ w'.heap.size) (hB : nB ≤ B0) (hk : ∀ b, b < B0 ∨ b = nB ∨ b = sb → w'.heap[b]? = w.heap[b]?) : TkSt w0 nB p2 v cs w' sb s := by
  obtain ⟨rfl, h1, h2, h3, h4, h5, h6, n, h7, h8, h9, h10⟩ := hs
  have hb := hk sb (.inr (.inl rfl))
  exact ⟨rfl, by omega, h2, h3, fun b hb => (hk b (.inl (by omega))).trans (h4 b hb), h5, h6, n, h7, h8, (World.cell?_of_block (a := ⟨sb, 0, none⟩) hb).trans h9, (World.frozen?_of_block (a := ⟨sb, 0, none⟩) hb).trans h10⟩

/-- RunProgram's closure chooses as the reference does. -/
theorem runChooser (ps : List N5) (a : Option Addr) (w0 : World) (nB p2 E : Nat) (v : Value) (cs : List Int) (hv : PV ps) (hn12 : ps.length ≤ 12) (hn : cs.length ≤ 1099511627776) (hE : nB < E) (hr : RowN w0 a ps) (h0 : w0.heap.size = nB) :
    Chooser ps a nB E nB 46 nB p2 (TkSt w0 nB p2 v cs) (fun _ m s => tk8 m s) (rn8 ps) (fun _ _ => True) where
  eg := fun args w => calls_eg Try.func46 (by kernel_rfl) rfl args w
  pv := hv
  n12 := hn12
  e0 := by omega
  en := by omega
  row := fun w w' h hz hk => by
    intro k hkl
    obtain ⟨b, off, ha, -, -⟩ := hr k hkl
    obtain ⟨b', off', ha', hlt, c0, c1, c2, c3, c4⟩ := h k hkl
    rw [ha] at ha'
    simp only [Option.some.injEq, Addr.mk.injEq, and_true] at ha'
    obtain ⟨rfl, rfl⟩ := ha'
    have hb : b < nB := by
      obtain ⟨b2, off2, ha2, hlt2, -⟩ := hr k hkl
      rw [ha] at ha2
      simp only [Option.some.injEq, Addr.mk.injEq, and_true] at ha2
      omega
    have hb' := hk b hb
    exact ⟨b, off, ha, by omega, (World.cell?_of_block (a := ⟨b, off + k * 5, none⟩) hb').trans c0, (World.cell?_of_block (a := ⟨b, off + k * 5 + 1, none⟩) hb').trans c1, (World.cell?_of_block (a := ⟨b, off + k * 5 + 2, none⟩) hb').trans c2, (World.cell?_of_block (a := ⟨b, off + k * 5 + 3, none⟩) hb').trans c3, (World.cell?_of_block (a := ⟨b, off + k * 5 + 4, none⟩) hb').trans c4⟩
  blk := fun w sb s hs => by
    obtain ⟨rfl, h1, -⟩ := hs
    exact ⟨Nat.le_refl _, h1, Nat.le_refl _, h1⟩
  keep := fun w w' sb s hs hz hk => tkSt_keep hs hz (Nat.le_refl _) hk
  call := fun w sb s t i m hs _ _ _ _ h1 h5 => runClosure_any w0 nB p2 v cs w sb s hs hn i m h1 h5
  lenC := fun _ _ _ _ _ => trivial
  lenM := fun _ _ _ _ _ => trivial
  r1 := fun i c s h => rn8_block h s
  r2 := fun i x y s _ _ h ha hb => rn8_seq h ha hb s
  r3 := fun i c x y s _ _ h ha hb => by
    rw [rn8_branch h ha hb]
    have hlt := tk8_lt (show 1 ≤ 2 by omega) s
    rcases (show (tk8 2 s).1 = 0 ∨ (tk8 2 s).1 = 1 by omega) with e | e <;> simp [e]
  r4 := fun i c x m s _ _ h ha _ => rn8_loop h ha s
  bnd := fun i s hi => (rn8_bounds hv i hi s).2
  lpk := fun i c x m s _ => by have := tk8_lt (show 1 ≤ m + 1 by omega) s; omega

set_option maxRecDepth 100000 in
set_option maxHeartbeats 4000000 in
/-- impl.RunProgram. -/
theorem implRunProgram_any (a : Option Addr) (cap : Nat) (ps : List N5) (v : Value) (cs : List Int) (w : World) (hr : RowN w a ps) (hc : ChF w v cs) (hn : ps.length ≤ 1099511627776) (hcn : cs.length ≤ 1099511627776) :
    Calls Try.prog 18 #[.slice a ps.length cap, v] w fun e w' => e = .returned (.int .i64 (ex8 ps cs)) ∧ Below w.heap.size w w' := by
  have HR := Lib.hid hr
  have HC := Lib.hid hc
  obtain ⟨ca, ccap, rfl, -, -⟩ := hc
  clear hr
  go_enter Try.func18, Try.ntmps18
  go_wp2_with fail
  obtain ⟨W, hW⟩ : ∃ W, W = w.alloc (.cells #[.slice ca cs.length ccap] 30) := ⟨_, rfl⟩
  have HBW := Lib.hid (show Below w.heap.size w W by rw [hW]; exact below_box _ _)
  have HQ := Lib.hid (show W.cell? ⟨w.heap.size, 0, none⟩ = some (.slice ca cs.length ccap) ∧ w.heap.size < W.heap.size by rw [hW]; exact ⟨by go_simp, by simp⟩)
  rw [← hW]
  clear hW
  refine (implProgramValid_any a cap ps W (HR.out.below HBW.out) hn).mono ?_
  rintro e w1 ⟨rfl, b1⟩
  have B1 := Lib.hid b1
  have HB1 := Lib.hid (HBW.out.trans (b1.mono HBW.out.size))
  clear b1
  cases hv : pvB ps with
  | false =>
    have HF := Lib.hid (show ex8 ps cs = -1 from if_neg (by rw [hv]; simp))
    clear hv
    go_wp2
    go_ret
    exact ⟨by rw [HF.out]; rfl, HB1.out⟩
  | true =>
    obtain ⟨⟨hl1, hl2⟩, hpv, -⟩ := pv_iff.1 hv
    have H6 := Lib.hid (pv_cst hv)
    have HPV := Lib.hid hpv
    have HF := Lib.hid (show ex8 ps cs = ((rn8 ps (ps.length - 1) cs).1 : Nat) from if_pos hv)
    have HL := Lib.hid (And.intro hl1 hl2)
    clear hv hpv hl1 hl2
    go_wp2_with fail
    obtain ⟨W3, hW3⟩ : ∃ W3, W3 = w1.alloc (.cells #[.int .i64 0] 3) := ⟨_, rfl⟩
    have HB3 := Lib.hid (show Below w1.heap.size w1 W3 by rw [hW3]; exact below_box _ _)
    have HZ3 := Lib.hid (show W3.heap.size = w1.heap.size + 1 by rw [hW3]; simp)
    have HC3 := Lib.hid (show W3.cell? ⟨w1.heap.size, 0, none⟩ = some (.int .i64 ((0 : Nat) : Int)) ∧ W3.frozen? ⟨w1.heap.size, 0, none⟩ = false by rw [hW3]; exact ⟨by go_simp, by go_simp⟩)
    rw [← hW3]
    clear hW3
    obtain ⟨L, hL⟩ : ∃ L : Nat, L + 1 = ps.length := ⟨ps.length - 1, by have := HL.out.1; omega⟩
    have h6 := H6.out
    have hF := HF.out
    rw [show ps.length - 1 = L by omega] at h6 hF
    have R1 := HR.out.below HB1.out
    have hs : TkSt w1 w1.heap.size w.heap.size (.slice ca cs.length ccap) cs W3 w1.heap.size cs :=
      ⟨rfl, by have := HZ3.out; omega, rfl, Nat.lt_of_lt_of_le HQ.out.2 B1.out.size, fun b hb => HB3.out.block b hb, (B1.out.cell (p := ⟨w.heap.size, 0, none⟩) HQ.out.2).trans HQ.out.1, HC.out.below HB1.out, 0, Nat.zero_le _, by simp, HC3.out.1, HC3.out.2⟩
    have K := executed_any cap W3 (fun E hE => runChooser ps a w1 w1.heap.size w.heap.size E _ cs HPV.out HL.out.2 hcn (by have := HZ3.out; omega) R1 rfl) (R1.below HB3.out) w1.heap.size cs hs trivial L hL h6
    have HK := Lib.hid K
    have HFF := Lib.hid hF
    clear K hs hL h6 hF R1
    refine HK.out.mono ?_
    rintro e w4 ⟨rfl, sb', -, hc4, -⟩
    have HB4 := Lib.hid (show Below w.heap.size w w4 from (HB1.out.trans (HB3.out.mono HB1.out.size)).trans (hc4.below (by have := HB1.out.size; have := HB3.out.size; omega) (by have := HB1.out.size; rintro b (rfl | rfl) <;> omega)))
    clear hc4
    go_wp2
    go_ret
    exact ⟨by rw [HFF.out]; rfl, HB4.out⟩

end Go.Proofs.Ytlcdmjcikbgnpaa
