/- FormatRat: the text of a fraction. For all fractions of at most a thousand limbs. -/
import Derived.Test.YtgdclneolgmggaaGreatDoorNrq
import Derived.Test.YtgdclneolgmggaaGreatDoorFmt
import Derived.Test.YtgdclneolgmggaaGreatDoorRfm
namespace Go.Proofs.YtgdclneolgmggaaGreatDoor
open Go.RowKit Kb Go.Lib

/-- The text of a fraction. -/
def fq (r : Rat) : List UInt8 := if r.den = 1 then itoa r.num else itoa r.num ++ (47 :: itoa (r.den : Int))

theorem itoa_len {z : Int} (h : Le 1000 z) : (itoa z).length ≤ 5001 := by
  have hd : (decDigits z.natAbs).length ≤ 5000 := dec_cut (k := 1000) h (by decide)
  by_cases h0 : z < 0
  · rw [itoa_neg h0, List.length_cons]; omega
  · rw [itoa_pos (by omega)]; omega

theorem size_of {l : List UInt8} {F : ByteArray} (h : (⟨l.toArray⟩ : ByteArray) = F) : F.size = l.length := by
  subst h
  rw [← bl_len, bl_of]

theorem heap_set4 {w : World} {g : Nat} {a b c d a' b' c' d' : Value} {T : TypeId} (h : w.heap[g]? = some (.cells #[a, b, c, d] T (0, 0))) :
    ((((w.setCell ⟨g, 0, none⟩ a').setCell ⟨g, 1, none⟩ b').setCell ⟨g, 2, none⟩ c').setCell ⟨g, 3, none⟩ d').heap[g]? = some (.cells #[a', b', c', d'] T (0, 0)) := by
  simp [World.setCell, Array.getElem?_modify, h]

theorem FormatF {p : Bool} {A : Option Addr} {n c : Nat} {z : Int} {w : World} (F : ByteArray) (hF : Hid ((⟨(itoa z).toArray⟩ : ByteArray) = F)) (h : Zn w p A n c z) (hz : Le 1000 z) (ht : Tp w) :
    Calls Tryz.prog 7 #[.agg #[.bool p, .slice A n c]] w fun e w' => e = .returned (.string F) ∧ Below w.heap.size w w' := by
  obtain ⟨a, ha, e⟩ := h.zi
  have hlt : a < 65536 ^ 1000 := by rw [Zi.nat e.out]; exact hz
  have := Format_any (p := p) ha hlt ht
  rw [e.out, hF.out] at this
  exact this

set_option maxRecDepth 100000 in
set_option maxHeartbeats 8000000 in
theorem FormatRat_any {w : World} {k : Nat} {x : Rat} {s1 : Bool} {S1 : Option Addr} {ls1 cs1 : Nat} {s2 : Bool} {S2 : Option Addr} {ls2 cs2 : Nat} (h : Qi w s1 S1 ls1 cs1 s2 S2 ls2 cs2 k x) (hk0 : 0 < k) (hk : k ≤ 1000) (hx : QL k x) (hT : Tb w) (ht : Tp w) :
    Calls Tryz.prog 8 #[.agg #[.bool s1, .slice S1 ls1 cs1, .bool s2, .slice S2 ls2 cs2]] w fun e w' => e = .returned (.string ⟨(fq x).toArray⟩) ∧ Below w.heap.size w w' := by
  have b0 := heap_alloc_new w (.cells #[.bool s1, .slice S1 ls1 cs1, .bool s2, .slice S2 ls2 cs2] 26)
  have hB := (Below.refl w.heap.size w).alloc (Nat.le_refl _) (.cells #[.bool s1, .slice S1 ls1 cs1, .bool s2, .slice S2 ls2 cs2] 26)
  obtain ⟨g, hg⟩ : ∃ g, w.heap.size = g := ⟨_, rfl⟩
  go_enter Tryz.func8, Tryz.ntmps8
  go_wp2_with fail
  rw [hg] at b0
  generalize w.alloc (.cells #[.bool s1, .slice S1 ls1 cs1, .bool s2, .slice S2 ls2 cs2] 26) = W0 at *
  have h0 := h.below hB
  have T0 := hT.below hB
  have Ht := hid ht
  have HB := hid hB
  have Hg := hid hg
  have l0 : g < W0.heap.size := (Array.getElem?_eq_some_iff.1 b0).1
  clear h hT ht hB hg
  refine (normal_q h0 hk0 hk T0).mono ?_
  rintro e w1 ⟨p1, A1, n1, c1, p2, A2, n2, c2, rfl, hq, hb1⟩
  have b1 : Bk w1 g _ := (hb1.block g l0).trans b0
  have l1 := b1.lt
  obtain ⟨x0, x1, x2, x3, x4, x5, x6, x7⟩ := b1.c4
  have b2 : Bk _ g _ := heap_set4 (a' := .bool p1) (b' := .slice A1 n1 c1) (c' := .bool p2) (d' := .slice A2 n2 c2) b1
  have hq2 := hq.offbox b1 (noInt_four _ _ _ _ _ _ _ _) (gb4' _ _ (.bool p1) (.slice A1 n1 c1) (.bool p2) (.slice A2 n2 c2))
  have hbl := below4 (bthen HB.out hb1 (Nat.le_refl _)) (show w.heap.size ≤ g by have := Hg.out; omega) (.bool p1) (.slice A1 n1 c1) (.bool p2) (.slice A2 n2 c2)
  have hsz : w1.heap.size = ((((w1.setCell ⟨g, 0, none⟩ (.bool p1)).setCell ⟨g, 1, none⟩ (.slice A1 n1 c1)).setCell ⟨g, 2, none⟩ (.bool p2)).setCell ⟨g, 3, none⟩ (.slice A2 n2 c2)).heap.size := by simp [World.setCell]
  have HQ := hid (show Qf ((((w1.setCell ⟨g, 0, none⟩ (.bool p1)).setCell ⟨g, 1, none⟩ (.slice A1 n1 c1)).setCell ⟨g, 2, none⟩ (.bool p2)).setCell ⟨g, 3, none⟩ (.slice A2 n2 c2)) p1 A1 n1 c1 p2 A2 n2 c2 x from hq2)
  have HX := hid (show Below w.heap.size w ((((w1.setCell ⟨g, 0, none⟩ (.bool p1)).setCell ⟨g, 1, none⟩ (.slice A1 n1 c1)).setCell ⟨g, 2, none⟩ (.bool p2)).setCell ⟨g, 3, none⟩ (.slice A2 n2 c2)) from hbl)
  have B2 := hid b2
  clear h0 T0 b0 l0 hq hq2 hbl b1 b2 hb1
  have hP2 := hid (show Tp ((((w1.setCell ⟨g, 0, none⟩ (.bool p1)).setCell ⟨g, 1, none⟩ (.slice A1 n1 c1)).setCell ⟨g, 2, none⟩ (.bool p2)).setCell ⟨g, 3, none⟩ (.slice A2 n2 c2)) from Ht.out.below HX.out)
  obtain ⟨F1, hF1⟩ : ∃ F1, Hid ((⟨(itoa x.num).toArray⟩ : ByteArray) = F1) := ⟨_, rfl⟩
  obtain ⟨F2, hF2⟩ : ∃ F2, Hid ((⟨(itoa (x.den : Int)).toArray⟩ : ByteArray) = F2) := ⟨_, rfl⟩
  have L1 := hid (hx.num.mono hk)
  have L2 := hid (hx.den.mono hk)
  obtain ⟨q, hq⟩ : ∃ q, decide ((x.den : Int).natAbs = 1) = q := ⟨_, rfl⟩
  have Hq := hid hq
  have hone := isOne_nm HQ.out.d.2
  rw [hq] at hone
  go_wp2_with (go_at_call 44; fail)
  generalize (((w1.setCell ⟨g, 0, none⟩ (.bool p1)).setCell ⟨g, 1, none⟩ (.slice A1 n1 c1)).setCell ⟨g, 2, none⟩ (.bool p2)).setCell ⟨g, 3, none⟩ (.slice A2 n2 c2) = W2 at *
  clear x0 x1 x2 x3 x4 x5 x6 x7 hq
  obtain ⟨y0, y1, y2, y3, y4, y5, y6, y7⟩ := B2.out.c4
  have hgl : g < W2.heap.size := B2.out.lt
  refine hone.mono ?_
  rintro e w3 ⟨rfl, rfl⟩
  cases q with
  | true =>
    have hd : x.den = 1 := by have := of_decide_eq_true Hq.out; omega
    have HD := hid hd
    clear hd hone
    go_wp2_with (go_at_call 7; refine (FormatF F1 hF1 HQ.out.n L1.out hP2.out).mono ?_; rintro e w5 ⟨rfl, hb5⟩)
    go_ret
    refine ⟨?_, bthen HX.out hb5 (Nat.le_refl _)⟩
    unfold fq
    rw [if_pos HD.out, hF1.out]; rfl
  | false =>
    have hd : ¬ x.den = 1 := by have := of_decide_eq_false Hq.out; omega
    have HD := hid hd
    clear hd hone
    have hs1 : F1.size ≤ 5001 := by rw [size_of hF1.out]; exact itoa_len L1.out
    have hs2 : F2.size ≤ 5001 := by rw [size_of hF2.out]; exact itoa_len L2.out
    have hc1 : (9223372036854775807 < F1.size + 1) = False := eq_false (by omega)
    have hc2 : (9223372036854775807 < F1.size + 1 + F2.size) = False := eq_false (by omega)
    have hD0 : Below W2.heap.size W2 W2.drew := dr0
    have cz := fun (U : World) (hb : Below W2.heap.size W2 U) => (B2.out.step hb).c4
    have z0 := cz _ hD0
    go_wp2_with fail
    go_region_held3 (fun w' => w'.cell? ⟨g, 0, none⟩ = some (.bool p1) ∧ w'.cell? ⟨g, 1, none⟩ = some (.slice A1 n1 c1) ∧ w'.cell? ⟨g, 2, none⟩ = some (.bool p2) ∧ w'.cell? ⟨g, 3, none⟩ = some (.slice A2 n2 c2)) (first | exact ⟨z0.1, z0.2.1, z0.2.2.1, z0.2.2.2.1⟩ | exact ⟨za.1, za.2.1, za.2.2.1, za.2.2.2.1⟩ | exact ⟨zb.1, zb.2.1, zb.2.2.1, zb.2.2.2.1⟩) (first
      | (go_at_call 7; (first
          | (with_reducible refine (FormatF F1 hF1 (HQ.out.n.below hD0) L1.out (hP2.out.below hD0)).mono ?_; rintro e wa ⟨rfl, hba⟩; have hca := bthen hD0 hba (Nat.le_refl _); have za := cz _ hca)
          | (with_reducible refine (FormatF F2 hF2 (HQ.out.d.below hD0) L2.out (hP2.out.below hD0)).mono ?_; rintro e wa ⟨rfl, hba⟩; have hca := bthen hD0 hba (Nat.le_refl _); have za := cz _ hca)
          | (with_reducible refine (FormatF F1 hF1 (HQ.out.n.below hca) L1.out (hP2.out.below hca)).mono ?_; rintro e wb ⟨rfl, hbb⟩; have hcb := bthen hca hbb (Nat.le_refl _); have zb := cz _ hcb)
          | (with_reducible refine (FormatF F2 hF2 (HQ.out.d.below hca) L2.out (hP2.out.below hca)).mono ?_; rintro e wb ⟨rfl, hbb⟩; have hcb := bthen hca hbb (Nat.le_refl _); have zb := cz _ hcb))))
    all_goals
      go_wp2
      go_ret
      refine ⟨?_, bthen HX.out hcb (Nat.le_refl _)⟩
      have e := str_eq (s := F1 ++ ⟨#[47]⟩ ++ F2) (l := fq x) (by unfold fq; rw [if_neg HD.out, bl_append, bl_append, ← hF1.out, ← hF2.out, bl_of, bl_of, List.append_assoc]; rfl)
      rw [← e]; rfl

end Go.Proofs.YtgdclneolgmggaaGreatDoor
