/- The walk of laws.FnRunProgram, for whatever code. Conditions: the argument is a slice of bytes; Impl8. -/
import Derived.Test.YtlcdmjcikbgnpaaPrgCon
import Derived.Test.YtlcdmjcikbgnpaaZeros
import Derived.BigQuiet
namespace Go.Proofs.Ytlcdmjcikbgnpaa
open Go.RowKit Go.Deep

theorem vals_map (l : List Int) : vals (fun k => l.getD k 0) l.length = l.map fun c => .int .i64 c := by
  simp only [vals]
  apply List.ext_getElem
  · simp
  · intro n h1 h2
    simp only [List.length_map, List.length_range] at h1
    simp [List.getD_eq_getElem?_getD, h1]
theorem ownC_zeros {w : World} {base : Nat} {v : Value} {cs : List Int} {k : Nat} (h : w.ownsRow base 3 1 v (cs.length + k) (vals (fun k => cs.getD k 0) cs.length ++ (List.replicate k (0 : Int)).map fun c => .int .i64 c)) (hn : v ≠ .slice none 0 0) : OwnC w base v (cs ++ List.replicate k 0) := by
  refine ⟨?_, hn⟩
  unfold OwnI
  rw [← vals_app, vals_map (List.replicate k 0), List.length_append, List.length_replicate]
  exact h
theorem grown_g {a b c : World} {base g : Nat} (hb : Below base a b) (hg : b.grownBy c (some g)) (hs : base ≤ b.heap.size) (hl : base ≤ g) : Below base a c := hb.grown hg hs (fun k hk => by simp only [Option.some.injEq] at hk; omega)
/-- Sixty more, where the choice is small. -/
def sh8 (c : Int) : Int := if -1000 < c ∧ c < 1000 then c + 60 else c
theorem alk8_sh (cs : List Int) : alk8 cs (cs.map sh8) := by
  induction cs with
  | nil => trivial
  | cons c r ih =>
    refine ⟨?_, ih⟩
    unfold sh8
    split
    · exact .inr rfl
    · exact .inl rfl

set_option maxRecDepth 100000 in
set_option maxHeartbeats 4000000 in
/-- laws.FnRunProgram. -/
theorem fnRunProgram_walk (I8 : Impl8) (a : Option Addr) (len cap : Nat) (w : World) (hb : Byts w a len cap) :
    Calls Try.prog 6 #[.slice a len cap] w fun e w' => e = .returned (.bool true) ∧ Below w.heap.size w w' := by
  have hm : cap ≤ maxLen := hb.2.2
  have hlc : len ≤ cap := hb.2.1
  unfold maxLen at hm
  have HB := Lib.hid hb
  clear hb
  by_cases hl : 1048576 < len
  · have hl' : (1048576 : Int) < len := by omega
    go_enter Try.func6, Try.ntmps6
    go_wp2
    go_ret
    exact ⟨rfl, Below.refl _ _⟩
  have hl' : ¬ (1048576 : Int) < len := by omega
  go_enter Try.func6, Try.ntmps6
  go_wp2_with fail
  refine (drawRunProgram_any _ _ _ _ HB.out).mono ?_
  rintro e w1 ⟨s, v, ps, cs, rfl, hn, hcl, hrng, ho1, hc1, b1⟩
  obtain ⟨pa, pc, rfl, hr1, -, -⟩ := ho1.row
  have R1 := Lib.hid hr1
  have C1 := Lib.hid hc1
  have HRG := Lib.hid hrng
  obtain ⟨n, hN⟩ : ∃ n, n = ex8 ps cs := ⟨_, rfl⟩
  have HN := Lib.hid hN
  have HI := Lib.hid I8
  obtain ⟨Z, hZ⟩ : ∃ Z : Nat, Z = 700 := ⟨_, rfl⟩
  have HZ := Lib.hid hZ
  clear hZ
  obtain ⟨i0, xi, xz, xsz, xby⟩ := info_parts intInfo
  have HX := Lib.hid (And.intro xi (And.intro xz (And.intro xsz xby)))
  clear hr1 ho1 hc1 I8 hN HB hrng xi xz xsz xby
  go_wp2_with fail
  refine (HI.out.run _ _ ps _ cs _ R1.out C1.out.ch (by omega) (by omega)).mono ?_
  rintro e w2 ⟨rfl, b2⟩
  rw [← HN.out]
  have B2 := b1.trans (b2.mono b1.size)
  have R2 := Lib.hid (R1.out.below b2)
  have C2 := Lib.hid (C1.out.below b2)
  clear b1 b2 R1 C1
  go_wp2_with fail
  refine (specRunProgram_any _ _ ps _ cs _ R2.out C2.out.ch (by omega)).mono ?_
  rintro e w3 ⟨rfl, b3⟩
  rw [← HN.out]
  have B3 := B2.trans (b3.mono B2.size)
  have R3 := Lib.hid (R2.out.below b3)
  have C3 := Lib.hid (C2.out.below b3)
  clear b3 R2 C2 B2
  obtain ⟨g3, gc3, rfl, -, hg3, hs3⟩ := C3.out.at
  have HS3 := Lib.hid (show ∀ j u, (vals (fun k => cs.getD k 0) cs.length)[j]? = some u → (w3.alloc (.cells #[] 3)).cell? ((⟨g3, 0, none⟩ : Addr).add j) = some u from fun j u h => ((below_box w3 _).cell (p := (⟨g3, 0, none⟩ : Addr).add j) (by unfold Addr.add; split <;> exact hg3)).trans (hs3 j u h))
  clear hs3
  go_wp2_with (at_builtin; go_loud (refine wpList_append_own _ rfl (.tmp 26) (.tmp 27) 30 rfl w3.heap.size 3 i0 _ 1 8 Try.underlying30 HX.out.1 HX.out.2.1 HX.out.2.2.1 HX.out.2.2.2 rfl (by decide) _ 0 (vals (fun k => ([] : List Int).getD k 0) 0) rfl (OwnC.empty w3).1 ⟨g3, 0, none⟩ cs.length gc3 (vals (fun k => cs.getD k 0) cs.length) rfl (by rw [vals_len, Nat.mul_one]) HS3.out (vals_one _ _) (by unfold maxLen; omega) (by omega) (below_box w3 _).size ?_; intro v4 w4 hown hgrow hnil; have HB4 := Lib.hid (show Below w3.heap.size w3 w4 from (below_box w3 _).grown hgrow (below_box w3 _).size (fun k hk => (World.ownsRow.lt (OwnC.empty w3).1 k hk).1)); have O4 := Lib.hid (show OwnC w4 w3.heap.size v4 cs from OwnC.app (cs := []) (ds := cs) hown hnil (OwnC.empty w3).2); clear hown hgrow hnil; obtain ⟨g4, gc4, rfl, -, -, -⟩ := O4.out.at; refine wpList_append_own_zeros rfl (.tmp 28) (.const (.int .i64 700)) 30 3 rfl w3.heap.size 3 i0 (.int .i64 0) .i64 .i64 1 8 Try.underlying30 Try.underlying3 HX.out.1 HX.out.2.1 HX.out.2.2.1 HX.out.2.2.2 rfl (by decide) g4 cs.length gc4 (vals (fun k => cs.getD k 0) cs.length) rfl O4.out.1 Z (by rw [HZ.out]; rfl) (by rw [HZ.out]; decide) (by rw [zeros_int]; intro u hu; obtain ⟨c, -, rfl⟩ := List.mem_map.1 hu; rfl) (by have := HZ.out; unfold maxLen; omega) (by have := HZ.out; omega) HB4.out.size ?_; intro v5 w5 hown hgrow hnil; have HB5 := Lib.hid (show Below w3.heap.size w3 w5 from grown_g HB4.out hgrow HB4.out.size (World.ownsRow.lt O4.out.1 _ rfl).1); have O5 := Lib.hid (show OwnC w5 w3.heap.size v5 (cs ++ List.replicate Z 0) by rw [zeros_int] at hown; exact ownC_zeros hown hnil); clear hown hgrow hnil))
  obtain ⟨CZ, hCZ⟩ : ∃ CZ, CZ = cs ++ List.replicate Z 0 := ⟨_, rfl⟩
  rw [← hCZ] at O5
  have HCZ := Lib.hid hCZ
  clear hCZ
  obtain ⟨g5, gc5, rfl, -, -, -⟩ := O5.out.at
  have hcap : cs.length ≤ 1000 := by omega
  go_loopg [7, 8] cs.length (fun q s z wr => ∃ k : Nat, q + k = cs.length ∧ z = .int .i64 k ∧ OwnC wr w5.heap.size s ((cs.take k).map sh8) ∧ Below w5.heap.size w5 wr)
  case atStart => exact ⟨0, rfl, rfl, OwnC.empty w5, below_box _ _⟩
  case round =>
    obtain ⟨k, hq, rfl, ho, hbr⟩ := hrel
    have HQ := Lib.hid hq
    have HO := Lib.hid ho
    have HBR := Lib.hid hbr
    have hkl : k ≤ cs.length := by omega
    have CR := Lib.hid ((C3.out.below HB5.out).below hbr)
    clear hq hbr
    by_cases hlt : k < cs.length
    · obtain ⟨ca, ccap, e, hci, -, -⟩ := CR.out.1.intF
      simp only [Value.slice.injEq] at e
      obtain ⟨rfl, -, rfl⟩ := e
      obtain ⟨b, off, e, hb3, y0⟩ := hci k hlt
      simp only [Option.some.injEq, Addr.mk.injEq, and_true] at e
      obtain ⟨rfl, rfl⟩ := e
      obtain ⟨c, hc⟩ : ∃ c, c = cs.getD k 0 := ⟨_, rfl⟩
      simp only [Nat.zero_add] at y0
      rw [← hc] at y0
      have HT := Lib.hid (show (cs.take (k + 1)).map sh8 = (cs.take k).map sh8 ++ [sh8 c] by
        rw [List.take_succ_eq_append_getElem hlt, List.map_append, hc]
        simp [List.getD_eq_getElem?_getD, hlt])
      obtain ⟨D, hD⟩ : ∃ D, D = (cs.take k).map sh8 := ⟨_, rfl⟩
      rw [← hD] at HO HT ho
      have hDl : D.length ≤ 1000 := by rw [hD]; simp; omega
      obtain ⟨gs, gcs, rfl, -, -, -⟩ := ho.at
      clear hc hD hci ho
      have hk0 : (0 : Int) ≤ k := by omega
      have hk1 : (k : Int) < cs.length := by omega
      by_cases c1 : -1000 < c
      · by_cases c2 : c < 1000
        · have HS := Lib.hid (show sh8 c = c + 60 from if_pos ⟨c1, c2⟩)
          go_wp2_with (at_builtin; refine wpList_append_own _ rfl (.tmp 49) (.tmp 51) 30 rfl w5.heap.size 3 i0 _ 1 8 Try.underlying30 HX.out.1 HX.out.2.1 HX.out.2.2.1 HX.out.2.2.2 rfl (by decide) _ D.length (vals (fun k => D.getD k 0) D.length) rfl (World.ownsRow.alloc HO.out.1 _) ⟨wr.heap.size, 0, none⟩ 1 1 [.int .i64 (c + 60)] rfl rfl (news1 _ _ _) (one1 _) (by unfold maxLen; omega) (by omega) (Nat.le_trans HBR.out.size (by simp)) ?_; intro v6 w6 hown hgrow hnil; have HB6 := Lib.hid (show Below w5.heap.size w5 w6 from (HBR.out.trans ((below_box wr _).mono HBR.out.size)).grown hgrow (Nat.le_trans HBR.out.size (by simp)) (fun k hk => (World.ownsRow.lt HO.out.1 k hk).1)); have O6 := Lib.hid (show OwnC w6 w5.heap.size v6 ((cs.take (k + 1)).map sh8) by rw [HT.out, HS.out]; exact OwnC.app (cs := D) (ds := [c + 60]) hown hnil HO.out.2); clear hown hgrow hnil)
          go_roundg (gk - 1)
          case measure => have := HQ.out; omega
          case rel => exact ⟨k + 1, by have := HQ.out; omega, by go_num, O6.out, HB6.out⟩
        · have HS := Lib.hid (show sh8 c = c from if_neg (fun h => c2 h.2))
          go_wp2_with (at_builtin; refine wpList_append_own _ rfl (.tmp 49) (.tmp 51) 30 rfl w5.heap.size 3 i0 _ 1 8 Try.underlying30 HX.out.1 HX.out.2.1 HX.out.2.2.1 HX.out.2.2.2 rfl (by decide) _ D.length (vals (fun k => D.getD k 0) D.length) rfl (World.ownsRow.alloc HO.out.1 _) ⟨wr.heap.size, 0, none⟩ 1 1 [.int .i64 (c)] rfl rfl (news1 _ _ _) (one1 _) (by unfold maxLen; omega) (by omega) (Nat.le_trans HBR.out.size (by simp)) ?_; intro v6 w6 hown hgrow hnil; have HB6 := Lib.hid (show Below w5.heap.size w5 w6 from (HBR.out.trans ((below_box wr _).mono HBR.out.size)).grown hgrow (Nat.le_trans HBR.out.size (by simp)) (fun k hk => (World.ownsRow.lt HO.out.1 k hk).1)); have O6 := Lib.hid (show OwnC w6 w5.heap.size v6 ((cs.take (k + 1)).map sh8) by rw [HT.out, HS.out]; exact OwnC.app (cs := D) (ds := [c]) hown hnil HO.out.2); clear hown hgrow hnil)
          go_roundg (gk - 1)
          case measure => have := HQ.out; omega
          case rel => exact ⟨k + 1, by have := HQ.out; omega, by go_num, O6.out, HB6.out⟩
      · have HS := Lib.hid (show sh8 c = c from if_neg (fun h => c1 h.1))
        go_wp2_with (at_builtin; refine wpList_append_own _ rfl (.tmp 49) (.tmp 51) 30 rfl w5.heap.size 3 i0 _ 1 8 Try.underlying30 HX.out.1 HX.out.2.1 HX.out.2.2.1 HX.out.2.2.2 rfl (by decide) _ D.length (vals (fun k => D.getD k 0) D.length) rfl (World.ownsRow.alloc HO.out.1 _) ⟨wr.heap.size, 0, none⟩ 1 1 [.int .i64 (c)] rfl rfl (news1 _ _ _) (one1 _) (by unfold maxLen; omega) (by omega) (Nat.le_trans HBR.out.size (by simp)) ?_; intro v6 w6 hown hgrow hnil; have HB6 := Lib.hid (show Below w5.heap.size w5 w6 from (HBR.out.trans ((below_box wr _).mono HBR.out.size)).grown hgrow (Nat.le_trans HBR.out.size (by simp)) (fun k hk => (World.ownsRow.lt HO.out.1 k hk).1)); have O6 := Lib.hid (show OwnC w6 w5.heap.size v6 ((cs.take (k + 1)).map sh8) by rw [HT.out, HS.out]; exact OwnC.app (cs := D) (ds := [c]) hown hnil HO.out.2); clear hown hgrow hnil)
        go_roundg (gk - 1)
        case measure => have := HQ.out; omega
        case rel => exact ⟨k + 1, by have := HQ.out; omega, by go_num, O6.out, HB6.out⟩
    · obtain rfl : k = cs.length := by omega
      rw [List.take_length] at ho
      have HD := Lib.hid ho
      have HC5 := Lib.hid (HBR.out)
      have B6 := (B3.trans (HB5.out.mono B3.size)).trans (HBR.out.mono (Nat.le_trans B3.size HB5.out.size))
      have R6 := Lib.hid ((R3.out.below HB5.out).below HBR.out)
      have Z6 := Lib.hid (O5.out.below HBR.out)
      have HEZ := Lib.hid (show ex8 ps CZ = n by rw [HCZ.out, ex8_zeros]; exact HN.out.symm)
      have HES := Lib.hid (show ex8 ps (cs.map sh8) = n by rw [ex8_alike ps (alk8_sh cs)]; exact HN.out.symm)
      have HLZ := Lib.hid (show CZ.length ≤ 1099511627776 by rw [HCZ.out, List.length_append, List.length_replicate, HZ.out]; omega)
      have HLS := Lib.hid (show (cs.map sh8).length ≤ 1099511627776 by rw [List.length_map]; omega)
      obtain ⟨CS, hCS⟩ : ∃ CS, CS = cs.map sh8 := ⟨_, rfl⟩
      rw [← hCS] at HD HES HLS
      obtain ⟨gs, gcs, rfl, -, -, -⟩ := HD.out.at
      clear hCS HQ HO ho HBR CR hlt hkl
      go_wp2_with fail
      refine (HI.out.run _ _ ps _ CZ _ R6.out Z6.out.ch (by omega) HLZ.out).mono ?_
      rintro e w7 ⟨rfl, b7⟩
      rw [HEZ.out]
      have B7 := B6.trans (b7.mono B6.size)
      have R7 := Lib.hid (R6.out.below b7)
      have D7 := Lib.hid (HD.out.below b7)
      clear b7 R6 B6 Z6 HD
      go_wp2_with fail
      refine (HI.out.run _ _ ps _ CS _ R7.out D7.out.ch (by omega) HLS.out).mono ?_
      rintro e w8 ⟨rfl, b8⟩
      rw [HES.out]
      have B8 := B7.trans (b8.mono B7.size)
      clear b8 R7 B7 D7
      go_wp2_with fail
      refine (alive_any _).mono ?_
      rintro e w9 ⟨rfl, b9⟩
      have B9 := B8.trans (b9.mono B8.size)
      clear b9 B8
      go_wp2
      go_ret
      exact ⟨rfl, B9⟩

end Go.Proofs.Ytlcdmjcikbgnpaa
