/- ExactTexts at arguments of few limbs and bytes: the law's walk. -/
import Derived.Test.YtgdclneolgmggaaGreatDoorTxr
import Derived.Test.YtgdclneolgmggaaGreatDoorRrst
namespace Go.Proofs.YtgdclneolgmggaaGreatDoor
open Go.RowKit Kb Go.Lib

theorem itoa_len12 {z : Int} (h : Le 12 z) : (itoa z).length ≤ 61 := by
  have hd : (decDigits z.natAbs).length ≤ 60 := dec_len (k := 60) (Nat.lt_of_lt_of_le h (by decide)) (by decide)
  by_cases h0 : z < 0
  · rw [itoa_neg h0, List.length_cons]; omega
  · rw [itoa_pos (by omega)]; omega

theorem fq_len12 {x : Rat} (h : QL 12 x) : (fq x).length ≤ 900 := by
  have h1 := itoa_len12 h.num
  have h2 := itoa_len12 h.den
  unfold fq
  split
  · omega
  · rw [List.length_append, List.length_cons]; omega

theorem fq_len130 {x : Rat} (h : QL 12 x) : (fq x).length ≤ 130 := by
  have h1 := itoa_len12 h.num
  have h2 := itoa_len12 h.den
  unfold fq
  split
  · omega
  · rw [List.length_append, List.length_cons]; omega

/-- What ParseRat tells, at its end. -/
def Pc (w : World) (l : List UInt8) (s1 : Bool) (A1 : Option Addr) (n1 c1 : Nat) (s2 : Bool) (A2 : Option Addr) (n2 c2 : Nat) (r : Int) : Prop :=
  (r = 0 ∧ l.length ≤ 800 ∧ fq (xq l) = l ∧ Qf w s1 A1 n1 c1 s2 A2 n2 c2 (xq l)) ∨ (Zn w s1 A1 n1 c1 0 ∧ Zn w s2 A2 n2 c2 0 ∧ ((800 < l.length ∧ r = 8) ∨ (l.length ≤ 800 ∧ fq (xq l) ≠ l ∧ r = 7)))
theorem Pc.below {w w' : World} {l : List UInt8} {s1 : Bool} {A1 : Option Addr} {n1 c1 : Nat} {s2 : Bool} {A2 : Option Addr} {n2 c2 : Nat} {r : Int} (h : Pc w l s1 A1 n1 c1 s2 A2 n2 c2 r) (hb : Below w.heap.size w w') : Pc w' l s1 A1 n1 c1 s2 A2 n2 c2 r := by
  rcases h with ⟨a, b, c, d⟩ | ⟨a, b, c⟩
  · exact .inl ⟨a, b, c, d.below hb⟩
  · exact .inr ⟨a.below hb, b.below hb, c⟩

theorem pzt_same {l : List UInt8} {z r z' r' : Int} (h : Pzt l z r) (k : Pzt l z' r') : z = z' ∧ r = r' := by
  rcases h with ⟨a, b, c⟩ | ⟨a, a2, b, c⟩ | ⟨a, a2, b, c⟩ <;> rcases k with ⟨d, e, f⟩ | ⟨d, d2, e, f⟩ | ⟨d, d2, e, f⟩
  · exact ⟨c.trans f.symm, b.trans e.symm⟩
  · omega
  · omega
  · omega
  · exact ⟨c.trans f.symm, b.trans e.symm⟩
  · exact absurd a2 d2
  · omega
  · exact absurd d2 a2
  · exact ⟨c.trans f.symm, b.trans e.symm⟩

theorem rFormatRatF {w : World} {k : Nat} {x : Rat} {s1 : Bool} {S1 : Option Addr} {ls1 cs1 : Nat} {s2 : Bool} {S2 : Option Addr} {ls2 cs2 : Nat} (F : ByteArray) (hF : Hid ((⟨(fq x).toArray⟩ : ByteArray) = F)) (h : Ri w s1 S1 ls1 cs1 s2 S2 ls2 cs2 k x) (hk : k ≤ 1000) (hx : QL k x) :
    Calls Tryz.prog 14 #[.agg #[.bool s1, .slice S1 ls1 cs1, .bool s2, .slice S2 ls2 cs2]] w fun e w' => e = .returned (.string F) ∧ Below w.heap.size w w' := by
  have := rFormatRat h hk hx
  rw [hF.out] at this
  exact this

theorem FormatZi {p : Bool} {A : Option Addr} {n c : Nat} {z : Int} {w : World} (F : ByteArray) (hF : Hid ((⟨(itoa z).toArray⟩ : ByteArray) = F)) (h : Zi w p A n c z) (hz : Le 1000 z) (ht : Tp w) :
    Calls Tryz.prog 7 #[.agg #[.bool p, .slice A n c]] w fun e w' => e = .returned (.string F) ∧ Below w.heap.size w w' := by
  obtain ⟨a, ha, e⟩ := h
  have hlt : a < 65536 ^ 1000 := by rw [Zi.nat e.out]; exact hz
  have := Format_any (p := p) ha hlt ht
  rw [e.out, hF.out] at this
  exact this

theorem FormatRatF {w : World} {k : Nat} {x : Rat} {s1 : Bool} {S1 : Option Addr} {ls1 cs1 : Nat} {s2 : Bool} {S2 : Option Addr} {ls2 cs2 : Nat} (F : ByteArray) (hF : Hid ((⟨(fq x).toArray⟩ : ByteArray) = F)) (h : Qi w s1 S1 ls1 cs1 s2 S2 ls2 cs2 k x) (hk0 : 0 < k) (hk : k ≤ 1000) (hx : QL k x) (hT : Tb w) (ht : Tp w) :
    Calls Tryz.prog 8 #[.agg #[.bool s1, .slice S1 ls1 cs1, .bool s2, .slice S2 ls2 cs2]] w fun e w' => e = .returned (.string F) ∧ Below w.heap.size w w' := by
  have := FormatRat_any h hk0 hk hx hT ht
  rw [hF.out] at this
  exact this

set_option maxRecDepth 100000 in
set_option maxHeartbeats 20000000 in
theorem texts_main {w : World} {N D : Int} {s1 : Bool} {A1 : Option Addr} {n1 c1 : Nat} {s2 : Bool} {A2 : Option Addr} {n2 c2 : Nat} (s : ByteArray) (hN : Zi w s1 A1 n1 c1 N) (hD : Zi w s2 A2 n2 c2 D) (lN : Le 12 N) (lD : Le 12 D) (k1 : n1 ≤ 12) (k2 : n2 ≤ 12) (hs : s.size ≤ 900) (hT : Tb w) (ht : Tp w) (hM : Mx w) :
    Calls Tryz.prog 3 #[.agg #[.bool s1, .slice A1 n1 c1, .bool s2, .slice A2 n2 c2], .string s] w fun e w' => e = .returned (.bool true) ∧ Below w.heap.size w w' := by
  have b0 := heap_alloc_new w (.cells #[.bool s1, .slice A1 n1 c1, .bool s2, .slice A2 n2 c2] 26)
  have hB := al1' w (.cells #[.bool s1, .slice A1 n1 c1, .bool s2, .slice A2 n2 c2] 26)
  obtain ⟨g, hg0⟩ : ∃ g, w.heap.size = g := ⟨_, rfl⟩
  go_enter Tryz.func3, Tryz.ntmps3
  go_wp2_with (go_at_call 5; fail)
  rw [hg0] at b0
  generalize w.alloc (.cells #[.bool s1, .slice A1 n1 c1, .bool s2, .slice A2 n2 c2] 26) = W0 at *
  have HN := hN.below hB
  have HD := hD.below hB
  have T0 := hT.below hB
  have P0 := ht.below hB
  have M0 := hM.below hB
  have HB := hid hB
  have Hg0 := hid hg0
  have B0 := hid (show Bk W0 g _ from b0)
  have l0 : g < W0.heap.size := (Array.getElem?_eq_some_iff.1 b0).1
  clear hN hD hT ht hM hB hg0 b0
  refine (wide_no k1 k2).mono ?_
  rintro e w1 ⟨rfl, hb1⟩
  have HN1 := hid (HN.below hb1)
  have HD1 := hid (HD.below hb1)
  have T1 := hid (T0.below hb1)
  have P1 := hid (P0.below hb1)
  have M1 := hid (M0.below hb1)
  have B1 := hid (B0.out.step hb1)
  have HB1 := hid (bthen HB.out hb1 (Nat.le_refl _))
  have l1 := Nat.lt_of_lt_of_le l0 hb1.size
  clear HN HD T0 P0 M0 HB hb1 l0 B0
  have hQ : Hid (Qi w1 s1 A1 n1 c1 s2 A2 n2 c2 12 (rv N D)) := hid ⟨⟨N, D, HN1.out, HD1.out, rfl, lN, lD⟩⟩
  have hQL := hid (rv_ql (k := 12) (by decide) lN lD)
  have LN := hid (lN.mono (show 12 ≤ 1000 by decide))
  obtain ⟨F1, hF1⟩ : ∃ F1, Hid ((⟨(itoa N).toArray⟩ : ByteArray) = F1) := ⟨_, rfl⟩
  obtain ⟨F2, hF2⟩ : ∃ F2, Hid ((⟨(fq (rv N D)).toArray⟩ : ByteArray) = F2) := ⟨_, rfl⟩
  have cz := fun (U : World) (hb : Below w1.heap.size w1 U) => (B1.out.step hb).c4
  have hD0 : Below w1.heap.size w1 w1.drew := dr0
  have z0 := cz _ hD0
  have fN := fun (U : World) (hb : Below w1.heap.size w1 U) => FormatZi F1 hF1 (HN1.out.below hb) LN.out (P1.out.below hb)
  have fQ := fun (U : World) (hb : Below w1.heap.size w1 U) => FormatRatF F2 hF2 (hQ.out.below hb) (by decide) (by decide) hQL.out (T1.out.below hb) (P1.out.below hb)
  go_upto_region 3 with fail
  go_region_held3 (fun w' => w'.cell? ⟨g, 0, none⟩ = some (.bool s1) ∧ w'.cell? ⟨g, 1, none⟩ = some (.slice A1 n1 c1) ∧ w'.cell? ⟨g, 2, none⟩ = some (.bool s2) ∧ w'.cell? ⟨g, 3, none⟩ = some (.slice A2 n2 c2)) (first | exact ⟨z0.1, z0.2.1, z0.2.2.1, z0.2.2.2.1⟩ | exact ⟨za.1, za.2.1, za.2.2.1, za.2.2.2.1⟩ | exact ⟨zb.1, zb.2.1, zb.2.2.1, zb.2.2.2.1⟩) (first
    | (go_at_call 7; (first
        | (with_reducible refine (fN _ hD0).mono ?_; rintro e wa ⟨rfl, hba⟩; have hca := bthen hD0 hba (Nat.le_refl _); have za := cz _ hca)
        | (with_reducible refine (fN _ hca).mono ?_; rintro e wb ⟨rfl, hbb⟩; have hcb := bthen hca hbb (Nat.le_refl _); have zb := cz _ hcb)))
    | (go_at_call 8; (first
        | (with_reducible refine (fQ _ hD0).mono ?_; rintro e wa ⟨rfl, hba⟩; have hca := bthen hD0 hba (Nat.le_refl _); have za := cz _ hca)
        | (with_reducible refine (fQ _ hca).mono ?_; rintro e wb ⟨rfl, hbb⟩; have hcb := bthen hca hbb (Nat.le_refl _); have zb := cz _ hcb))))
  have hs1 : F1.size ≤ 900 := by rw [size_of hF1.out]; exact Nat.le_trans (itoa_len12 lN) (by decide)
  have hs2 : F2.size ≤ 900 := by rw [size_of hF2.out]; exact fq_len12 hQL.out
  have C0 := hid hcb
  clear hD0 z0 za zb hba hbb hca hcb fN fQ
  go_wp2_with (go_at_call 9; fail)
  generalize wb = U0 at *
  refine (Parse_any s U0 (by omega)).mono ?_
  rintro e v1 ⟨p1, a1, n10, c10, z1, r1, rfl, hp1, hz1, hb1⟩
  have hal1 := al1' v1 (.cells #[.bool p1, .slice a1 n10 c10] 24)
  have X1 := hid (show Bk _ _ _ from heap_alloc_new v1 (.cells #[.bool p1, .slice a1 n10 c10] 24))
  have hbb1 := bthen hb1 hal1 (Nat.le_refl _)
  have C1 := hid (bthen C0.out hbb1 (Nat.le_refl _))
  have Z1 := hid (hz1.below hal1)
  have H1 := hid hp1
  clear hp1 hz1
  clear hb1 hal1 hbb1 C0
  go_wp2_with (go_at_call 10; fail)
  generalize v1.alloc (.cells #[.bool p1, .slice a1 n10 c10] 24) = U1 at *
  generalize v1.heap.size = g1 at *
  refine (rParse s U1 (by omega)).mono ?_
  rintro e v2 ⟨p2, a2, n20, c20, z2, r2, rfl, hp2, hz2, hb2⟩
  have hal2 := al1' v2 (.cells #[.bool p2, .slice a2 n20 c20] 24)
  have X2 := hid (show Bk _ _ _ from heap_alloc_new v2 (.cells #[.bool p2, .slice a2 n20 c20] 24))
  have hbb2 := bthen hb2 hal2 (Nat.le_refl _)
  have C2 := hid (bthen C1.out hbb2 (Nat.le_refl _))
  have Z2 := hid (hz2.below hal2)
  have H2 := hid hp2
  clear hp2 hz2
  replace Z1 := hid (Z1.out.below hbb2)
  replace X1 := hid (X1.out.step hbb2)
  clear hb2 hal2 hbb2 C1
  go_wp2_with (go_at_call 11; fail)
  generalize v2.alloc (.cells #[.bool p2, .slice a2 n20 c20] 24) = U2 at *
  generalize v2.heap.size = g2 at *
  refine (ParseRat_any s U2 (by omega) (T1.out.below C2.out) (P1.out.below C2.out) (M1.out.below C2.out)).mono ?_
  rintro e v3 ⟨p3, a3, n30, c30, q3, e3, m30, d30, r3, rfl, hb3, hp3⟩
  have hal3 := al1' v3 (.cells #[.bool p3, .slice a3 n30 c30, .bool q3, .slice e3 m30 d30] 26)
  have X3 := hid (show Bk _ _ _ from heap_alloc_new v3 (.cells #[.bool p3, .slice a3 n30 c30, .bool q3, .slice e3 m30 d30] 26))
  have hbb3 := bthen hb3 hal3 (Nat.le_refl _)
  have C3 := hid (bthen C2.out hbb3 (Nat.le_refl _))
  have Z3 := hid (Pc.below hp3 hal3)
  clear hp3
  replace Z1 := hid (Z1.out.below hbb3)
  replace X1 := hid (X1.out.step hbb3)
  replace Z2 := hid (Z2.out.below hbb3)
  replace X2 := hid (X2.out.step hbb3)
  clear hb3 hal3 hbb3 C2
  go_wp2_with (go_at_call 12; fail)
  generalize v3.alloc (.cells #[.bool p3, .slice a3 n30 c30, .bool q3, .slice e3 m30 d30] 26) = U3 at *
  generalize v3.heap.size = g3 at *
  refine (rParseRat s U3 (by omega)).mono ?_
  rintro e v4 ⟨p4, a4, n40, c40, q4, e4, m40, d40, r4, rfl, hb4, hp4⟩
  have hal4 := al1' v4 (.cells #[.bool p4, .slice a4 n40 c40, .bool q4, .slice e4 m40 d40] 26)
  have X4 := hid (show Bk _ _ _ from heap_alloc_new v4 (.cells #[.bool p4, .slice a4 n40 c40, .bool q4, .slice e4 m40 d40] 26))
  have hbb4 := bthen hb4 hal4 (Nat.le_refl _)
  have C4 := hid (bthen C3.out hbb4 (Nat.le_refl _))
  have Z4 := hid (Pc.below hp4 hal4)
  clear hp4
  replace Z1 := hid (Z1.out.below hbb4)
  replace X1 := hid (X1.out.step hbb4)
  replace Z2 := hid (Z2.out.below hbb4)
  replace X2 := hid (X2.out.step hbb4)
  replace Z3 := hid (Z3.out.below hbb4)
  replace X3 := hid (X3.out.step hbb4)
  clear hb4 hal4 hbb4 C3
  go_wp2_with (go_at_call 9; fail)
  generalize v4.alloc (.cells #[.bool p4, .slice a4 n40 c40, .bool q4, .slice e4 m40 d40] 26) = U4 at *
  generalize v4.heap.size = g4 at *
  refine (Parse_any F1 U4 (by omega)).mono ?_
  rintro e v5 ⟨p5, a5, n50, c50, z5, r5, rfl, hp5, hz5, hb5⟩
  have hal5 := al1' v5 (.cells #[.bool p5, .slice a5 n50 c50] 24)
  have X5 := hid (show Bk _ _ _ from heap_alloc_new v5 (.cells #[.bool p5, .slice a5 n50 c50] 24))
  have hbb5 := bthen hb5 hal5 (Nat.le_refl _)
  have C5 := hid (bthen C4.out hbb5 (Nat.le_refl _))
  have Z5 := hid (hz5.below hal5)
  have H5 := hid hp5
  clear hp5 hz5
  replace Z1 := hid (Z1.out.below hbb5)
  replace X1 := hid (X1.out.step hbb5)
  replace Z2 := hid (Z2.out.below hbb5)
  replace X2 := hid (X2.out.step hbb5)
  replace Z3 := hid (Z3.out.below hbb5)
  replace X3 := hid (X3.out.step hbb5)
  replace Z4 := hid (Z4.out.below hbb5)
  replace X4 := hid (X4.out.step hbb5)
  clear hb5 hal5 hbb5 C4
  go_wp2_with (go_at_call 11; fail)
  generalize v5.alloc (.cells #[.bool p5, .slice a5 n50 c50] 24) = U5 at *
  generalize v5.heap.size = g5 at *
  refine (ParseRat_any F2 U5 (by omega) (T1.out.below C5.out) (P1.out.below C5.out) (M1.out.below C5.out)).mono ?_
  rintro e v6 ⟨p6, a6, n60, c60, q6, e6, m60, d60, r6, rfl, hb6, hp6⟩
  have hal6 := al1' v6 (.cells #[.bool p6, .slice a6 n60 c60, .bool q6, .slice e6 m60 d60] 26)
  have X6 := hid (show Bk _ _ _ from heap_alloc_new v6 (.cells #[.bool p6, .slice a6 n60 c60, .bool q6, .slice e6 m60 d60] 26))
  have hbb6 := bthen hb6 hal6 (Nat.le_refl _)
  have C6 := hid (bthen C5.out hbb6 (Nat.le_refl _))
  have Z6 := hid (Pc.below hp6 hal6)
  clear hp6
  replace Z1 := hid (Z1.out.below hbb6)
  replace X1 := hid (X1.out.step hbb6)
  replace Z2 := hid (Z2.out.below hbb6)
  replace X2 := hid (X2.out.step hbb6)
  replace Z3 := hid (Z3.out.below hbb6)
  replace X3 := hid (X3.out.step hbb6)
  replace Z4 := hid (Z4.out.below hbb6)
  replace X4 := hid (X4.out.step hbb6)
  replace Z5 := hid (Z5.out.below hbb6)
  replace X5 := hid (X5.out.step hbb6)
  clear hb6 hal6 hbb6 C5
  go_upto_region 10 with fail
  generalize v6.alloc (.cells #[.bool p6, .slice a6 n60 c60, .bool q6, .slice e6 m60 d60] 26) = U6 at *
  generalize v6.heap.size = g6 at *
  have hzr := pzt_same H1.out H2.out
  have BG := hid (B1.out.step C6.out)
  have N6 := hid (HN1.out.below C6.out)
  have Q6 := hid (hQ.out.below C6.out)
  have hr12 := hzr.2
  subst hr12
  have hz12 := hid hzr.1
  clear hzr
  obtain ⟨_, _, _, _, _, _, _, _⟩ := BG.out.c4
  go_wp2_with (go_at_call 13; fail)
  refine (rFormatF F1 hF1.out N6.out (by omega) LN.out).mono ?_
  rintro e y1 ⟨rfl, hy1⟩
  replace BG := hid (BG.out.step hy1)
  replace X1 := hid (X1.out.step hy1)
  replace X2 := hid (X2.out.step hy1)
  replace X3 := hid (X3.out.step hy1)
  replace X4 := hid (X4.out.step hy1)
  replace X5 := hid (X5.out.step hy1)
  replace X6 := hid (X6.out.step hy1)
  replace Z1 := hid (Z1.out.below hy1)
  replace Z2 := hid (Z2.out.below hy1)
  replace Z3 := hid (Z3.out.below hy1)
  replace Z4 := hid (Z4.out.below hy1)
  replace Z5 := hid (Z5.out.below hy1)
  replace Z6 := hid (Z6.out.below hy1)
  replace N6 := hid (N6.out.below hy1)
  replace Q6 := hid (Q6.out.below hy1)
  have D1 := hid (bthen C6.out hy1 (Nat.le_refl _))
  clear hy1
  obtain ⟨_, _, _, _, _, _, _, _⟩ := BG.out.c4
  go_wp2_with (go_at_call 14; fail)
  refine (rFormatRatF F2 hF2 ⟨Q6.out, by omega, by omega⟩ (by decide) hQL.out).mono ?_
  rintro e y2 ⟨rfl, hy2⟩
  replace BG := hid (BG.out.step hy2)
  replace X1 := hid (X1.out.step hy2)
  replace X2 := hid (X2.out.step hy2)
  replace X3 := hid (X3.out.step hy2)
  replace X4 := hid (X4.out.step hy2)
  replace X5 := hid (X5.out.step hy2)
  replace X6 := hid (X6.out.step hy2)
  replace Z1 := hid (Z1.out.below hy2)
  replace Z2 := hid (Z2.out.below hy2)
  replace Z3 := hid (Z3.out.below hy2)
  replace Z4 := hid (Z4.out.below hy2)
  replace Z5 := hid (Z5.out.below hy2)
  replace Z6 := hid (Z6.out.below hy2)
  replace N6 := hid (N6.out.below hy2)
  replace Q6 := hid (Q6.out.below hy2)
  have D2 := hid (bthen D1.out hy2 (Nat.le_refl _))
  clear hy2
  obtain ⟨_, _, _, _⟩ := X1.out.c2
  obtain ⟨_, _, _, _⟩ := X2.out.c2
  go_wp2_with (go_at_call 15; fail)
  refine (SameZ Z1.out Z2.out hz12.out).mono ?_
  rintro e y3 ⟨rfl, hy3⟩
  replace BG := hid (BG.out.step hy3)
  replace X1 := hid (X1.out.step hy3)
  replace X2 := hid (X2.out.step hy3)
  replace X3 := hid (X3.out.step hy3)
  replace X4 := hid (X4.out.step hy3)
  replace X5 := hid (X5.out.step hy3)
  replace X6 := hid (X6.out.step hy3)
  replace Z1 := hid (Z1.out.below hy3)
  replace Z2 := hid (Z2.out.below hy3)
  replace Z3 := hid (Z3.out.below hy3)
  replace Z4 := hid (Z4.out.below hy3)
  replace Z5 := hid (Z5.out.below hy3)
  replace Z6 := hid (Z6.out.below hy3)
  replace N6 := hid (N6.out.below hy3)
  replace Q6 := hid (Q6.out.below hy3)
  have D3 := hid (bthen D2.out hy3 (Nat.le_refl _))
  clear hy3
  obtain ⟨_, _, _, _, _, _, _, _⟩ := X3.out.c4
  obtain ⟨_, _, _, _, _, _, _, _⟩ := X4.out.c4
  go_wp2_with (go_at_call 16; fail)
  refine (rat_two Z3.out Z4.out).mono ?_
  rintro e y4 ⟨rfl, hy4⟩
  replace BG := hid (BG.out.step hy4)
  replace X1 := hid (X1.out.step hy4)
  replace X2 := hid (X2.out.step hy4)
  replace X3 := hid (X3.out.step hy4)
  replace X4 := hid (X4.out.step hy4)
  replace X5 := hid (X5.out.step hy4)
  replace X6 := hid (X6.out.step hy4)
  replace Z1 := hid (Z1.out.below hy4)
  replace Z2 := hid (Z2.out.below hy4)
  replace Z3 := hid (Z3.out.below hy4)
  replace Z4 := hid (Z4.out.below hy4)
  replace Z5 := hid (Z5.out.below hy4)
  replace Z6 := hid (Z6.out.below hy4)
  replace N6 := hid (N6.out.below hy4)
  replace Q6 := hid (Q6.out.below hy4)
  have D4 := hid (bthen D3.out hy4 (Nat.le_refl _))
  clear hy4
  go_upto_region 12 with fail
  have hl5 : (bl F1).length ≤ 400 := by rw [← hF1.out, bl_of]; exact Nat.le_trans (itoa_len12 lN) (by decide)
  have hr5 : r5 = 0 ∧ z5 = N := by
    have hb : bl F1 = itoa N := by rw [← hF1.out, bl_of]
    rcases H5.out with ⟨a, _, _⟩ | ⟨_, _, b, c⟩ | ⟨_, a, _, _⟩
    · omega
    · exact ⟨b, by rw [c, hb]; exact (good_itoa N).2⟩
    · exact absurd (by rw [hb]; exact (good_itoa N).1) a
  obtain ⟨hr5, hz5⟩ := hr5
  have hb6 : bl F2 = fq (rv N D) := by rw [← hF2.out, bl_of]
  have hxx : xq (bl F2) = rv N D := by rw [hb6]; exact xq_fq _
  have hr6 : r6 = 0 ∧ Qf y4 p6 a6 n60 c60 q6 e6 m60 d60 (rv N D) := by
    rcases Z6.out with ⟨a, _, _, b⟩ | ⟨_, _, ⟨a, _⟩ | ⟨_, a, _⟩⟩
    · exact ⟨a, by rw [← hxx]; exact b⟩
    · have : (bl F2).length ≤ 130 := by rw [hb6]; exact fq_len130 hQL.out
      omega
    · exact absurd (by rw [hxx, hb6]) a
  obtain ⟨hr6, hq6⟩ := hr6
  subst hr5
  subst hr6
  have Q7 := hid hq6
  have Z7 := hid (show Zn y4 p5 a5 n50 c50 N by rw [← hz5]; exact Z5.out)
  have czz := fun (U : World) (hb : Below y4.heap.size y4 U) => (⟨(BG.out.step hb).c4.1, (BG.out.step hb).c4.2.1, (BG.out.step hb).c4.2.2.1, (BG.out.step hb).c4.2.2.2.1, (X5.out.step hb).c2.1, (X5.out.step hb).c2.2.1, (X6.out.step hb).c4.1, (X6.out.step hb).c4.2.1, (X6.out.step hb).c4.2.2.1, (X6.out.step hb).c4.2.2.2.1⟩ : U.cell? ⟨g, 0, none⟩ = some (.bool s1) ∧ U.cell? ⟨g, 1, none⟩ = some (.slice A1 n1 c1) ∧ U.cell? ⟨g, 2, none⟩ = some (.bool s2) ∧ U.cell? ⟨g, 3, none⟩ = some (.slice A2 n2 c2) ∧ U.cell? ⟨g5, 0, none⟩ = some (.bool p5) ∧ U.cell? ⟨g5, 1, none⟩ = some (.slice a5 n50 c50) ∧ U.cell? ⟨g6, 0, none⟩ = some (.bool p6) ∧ U.cell? ⟨g6, 1, none⟩ = some (.slice a6 n60 c60) ∧ U.cell? ⟨g6, 2, none⟩ = some (.bool q6) ∧ U.cell? ⟨g6, 3, none⟩ = some (.slice e6 m60 d60))
  have T9 := hid (T1.out.below D4.out)
  have hE0 : Below y4.heap.size y4 y4.drew := dr0
  have K0 := czz _ hE0
  clear hxx hq6 hz5 hb6
  go_region_held3 (fun w' => w'.cell? ⟨g, 0, none⟩ = some (.bool s1) ∧ w'.cell? ⟨g, 1, none⟩ = some (.slice A1 n1 c1) ∧ w'.cell? ⟨g, 2, none⟩ = some (.bool s2) ∧ w'.cell? ⟨g, 3, none⟩ = some (.slice A2 n2 c2) ∧ w'.cell? ⟨g5, 0, none⟩ = some (.bool p5) ∧ w'.cell? ⟨g5, 1, none⟩ = some (.slice a5 n50 c50) ∧ w'.cell? ⟨g6, 0, none⟩ = some (.bool p6) ∧ w'.cell? ⟨g6, 1, none⟩ = some (.slice a6 n60 c60) ∧ w'.cell? ⟨g6, 2, none⟩ = some (.bool q6) ∧ w'.cell? ⟨g6, 3, none⟩ = some (.slice e6 m60 d60)) (first | with_reducible exact K0 | with_reducible exact K1 | with_reducible exact K2 | with_reducible exact K3 | with_reducible exact K4 | with_reducible exact K5) (first
    | (go_at_call 17; with_reducible refine (rNorm (N6.out.below hE0) (by omega) LN.out).mono ?_; rintro e x1 ⟨pn1, An1, nn1, cn1, rfl, hn1, hx1⟩; have hE1 := bthen hE0 hx1 (Nat.le_refl _); have K1 := czz _ hE1)
    | (go_at_call 15; with_reducible refine (SameZ (Z7.out.below hE1) hn1 rfl).mono ?_; rintro e x2 ⟨rfl, hx2⟩; have hE2 := bthen hE1 hx2 (Nat.le_refl _); have K2 := czz _ hE2)
    | (go_at_call 18; with_reducible refine (rNormRat ⟨Q6.out.below hE2, by omega, by omega⟩ (by decide)).mono ?_; rintro e x3 ⟨pm1, Am1, nm1, cm1, pm2, Am2, nm2, cm2, rfl, hm1, hx3⟩; have hE3 := bthen hE2 hx3 (Nat.le_refl _); have K3 := czz _ hE3)
    | (go_at_call 16; with_reducible refine (rat_ok (Q7.out.below hE3) hm1 rfl).mono ?_; rintro e x4 ⟨rfl, hx4⟩; have hE4 := bthen hE3 hx4 (Nat.le_refl _); have K4 := czz _ hE4)
    | (go_at_call 6; with_reducible refine (awake_true _ (T9.out.below hE4)).mono ?_; rintro e x5 ⟨rfl, hx5⟩; have hE5 := bthen hE4 hx5 (Nat.le_refl _); have K5 := czz _ hE5))
  all_goals
    go_wp2
    go_ret
    exact ⟨rfl, bthen HB1.out (bthen D4.out hE5 (Nat.le_refl _)) (Nat.le_refl _)⟩

end Go.Proofs.YtgdclneolgmggaaGreatDoor
