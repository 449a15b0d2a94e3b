/- The reference's FormatRat. For all fractions of at most a thousand limbs. -/
import Derived.Test.YtgdclneolgmggaaGreatDoorFrq
import Derived.Test.YtgdclneolgmggaaGreatDoorRpa
import Derived.Test.YtgdclneolgmggaaGreatDoorRovr
namespace Go.Proofs.YtgdclneolgmggaaGreatDoor
open Go.RowKit Kb Go.Lib

theorem den_one {x : Rat} {F : ByteArray} (hF : (⟨(itoa (x.den : Int)).toArray⟩ : ByteArray) = F) : (F.toList == [49]) = decide (x.den = 1) := by
  subst hF
  rw [tl_eq, bl_of]
  have h1 : itoa 1 = [49] := by rw [itoa_pos (by decide)]; exact dec_small (by decide)
  by_cases h : x.den = 1
  · rw [decide_eq_true h, h]; exact beq_iff_eq.2 h1
  · rw [decide_eq_false h, beq_eq_false_iff_ne, ← h1]
    intro e
    have := itoa_inj e
    omega

set_option maxRecDepth 100000 in
set_option maxHeartbeats 8000000 in
theorem rFormatRat {w : World} {k : Nat} {x : Rat} {s1 : Bool} {S1 : Option Addr} {ls1 cs1 : Nat} {s2 : Bool} {S2 : Option Addr} {ls2 cs2 : Nat} (h : Ri w s1 S1 ls1 cs1 s2 S2 ls2 cs2 k x) (hk : k ≤ 1000) (hx : QL k x) :
    Calls Tryz.prog 14 #[.agg #[.bool s1, .slice S1 ls1 cs1, .bool s2, .slice S2 ls2 cs2]] w fun e w' => e = .returned (.string ⟨(fq x).toArray⟩) ∧ Below w.heap.size w w' := by
  have hB := (Below.refl w.heap.size w).alloc (Nat.le_refl _) (.cells #[.bool s1, .slice S1 ls1 cs1, .bool s2, .slice S2 ls2 cs2] 26)
  go_enter Tryz.func14, Tryz.ntmps14
  go_wp2_with fail
  generalize w.alloc (.cells #[.bool s1, .slice S1 ls1 cs1, .bool s2, .slice S2 ls2 cs2] 26) = W0 at *
  have h0 : Ri W0 s1 S1 ls1 cs1 s2 S2 ls2 cs2 k x := ⟨h.q.below hB, h.h1, h.h2⟩
  have HB := hid hB
  clear h hB
  refine (rNormRat h0 hk).mono ?_
  rintro e w1 ⟨p1, A1, n1, c1, p2, A2, n2, c2, rfl, hq, hb1⟩
  obtain ⟨F1, hF1⟩ : ∃ F1, Hid ((⟨(itoa x.num).toArray⟩ : ByteArray) = F1) := ⟨_, rfl⟩
  obtain ⟨F2, hF2⟩ : ∃ F2, Hid ((⟨(itoa (x.den : Int)).toArray⟩ : ByteArray) = F2) := ⟨_, rfl⟩
  have L1 := hid (hx.num.mono hk)
  have L2 := hid (hx.den.mono hk)
  have hal := al1' w1 (.cells #[.bool p1, .slice A1 n1 c1, .bool p2, .slice A2 n2 c2] 26)
  have HQ := hid (hq.below hal)
  have B2 := hid (show Bk _ _ _ from heap_alloc_new w1 (.cells #[.bool p1, .slice A1 n1 c1, .bool p2, .slice A2 n2 c2] 26))
  have HX := hid (bthen (bthen HB.out hb1 (Nat.le_refl _)) hal (Nat.le_refl _))
  clear hq hb1 h0 HB hal
  go_wp2_with (go_at_call 13; fail)
  generalize w1.alloc (.cells #[.bool p1, .slice A1 n1 c1, .bool p2, .slice A2 n2 c2] 26) = W2 at *
  generalize w1.heap.size = g at *
  have hgl : g < W2.heap.size := B2.out.lt
  have cz := fun (U : World) (hb : Below W2.heap.size W2 U) => (B2.out.step hb).c4
  have hs1 : F1.size ≤ 5001 := by rw [size_of hF1.out]; exact itoa_len L1.out
  have hs2 : F2.size ≤ 5001 := by rw [size_of hF2.out]; exact itoa_len L2.out
  have hn1 : n1 ≤ 100000 := Nat.le_trans (HQ.out.n.len L1.out) (by decide)
  have hn2 : n2 ≤ 100000 := Nat.le_trans (HQ.out.d.len L2.out) (by decide)
  have fN := fun (U : World) (hb : Below W2.heap.size W2 U) => rFormatF F1 hF1.out (HQ.out.n.below hb).zi hn1 L1.out
  have fD := fun (U : World) (hb : Below W2.heap.size W2 U) => rFormatF F2 hF2.out (HQ.out.d.below hb).zi hn2 L2.out
  refine (fD W2 (Below.refl _ _)).mono ?_
  rintro e w5 ⟨rfl, hb5⟩
  have hd1 := den_one hF2.out
  obtain ⟨y0, y1, y2, y3, y4, y5, y6, y7⟩ := cz _ hb5
  have hgl5 := Nat.lt_of_lt_of_le hgl hb5.size
  by_cases hd : x.den = 1
  · rw [decide_eq_true hd] at hd1
    have HD := hid hd
    clear hd
    go_wp2_with (go_at_call 13; refine (fN w5 hb5).mono ?_; rintro e w6 ⟨rfl, hb6⟩)
    go_ret
    refine ⟨?_, bthen (bthen HX.out hb5 (Nat.le_refl _)) hb6 (Nat.le_refl _)⟩
    unfold fq
    rw [if_pos HD.out, hF1.out]; rfl
  · rw [decide_eq_false hd] at hd1
    have HD := hid hd
    clear hd
    have hc1 : (9223372036854775807 < F1.size + 1) = False := eq_false (by omega)
    have hc2 : (9223372036854775807 < F1.size + 1 + F2.size) = False := eq_false (by omega)
    have hD0 := bthen hb5 (dr0 (W := w5)) (Nat.le_refl _)
    have z0 := cz _ hD0
    go_wp2_with fail
    go_region_held3 (fun w' => w'.cell? ⟨g, 0, none⟩ = some (.bool p1) ∧ w'.cell? ⟨g, 1, none⟩ = some (.slice A1 n1 c1) ∧ w'.cell? ⟨g, 2, none⟩ = some (.bool p2) ∧ w'.cell? ⟨g, 3, none⟩ = some (.slice A2 n2 c2)) (first | exact ⟨z0.1, z0.2.1, z0.2.2.1, z0.2.2.2.1⟩ | exact ⟨za.1, za.2.1, za.2.2.1, za.2.2.2.1⟩ | exact ⟨zb.1, zb.2.1, zb.2.2.1, zb.2.2.2.1⟩) (first
      | (go_at_call 13; (first
          | (with_reducible refine (fN _ hD0).mono ?_; rintro e wa ⟨rfl, hba⟩; have hca := bthen hD0 hba (Nat.le_refl _); have za := cz _ hca)
          | (with_reducible refine (fD _ hD0).mono ?_; rintro e wa ⟨rfl, hba⟩; have hca := bthen hD0 hba (Nat.le_refl _); have za := cz _ hca)
          | (with_reducible refine (fN _ hca).mono ?_; rintro e wb ⟨rfl, hbb⟩; have hcb := bthen hca hbb (Nat.le_refl _); have zb := cz _ hcb)
          | (with_reducible refine (fD _ hca).mono ?_; rintro e wb ⟨rfl, hbb⟩; have hcb := bthen hca hbb (Nat.le_refl _); have zb := cz _ hcb))))
    all_goals
      go_wp2
      go_ret
      refine ⟨?_, bthen HX.out hcb (Nat.le_refl _)⟩
      have e := str_eq (s := F1 ++ ⟨#[47]⟩ ++ F2) (l := fq x) (by unfold fq; rw [if_neg HD.out, bl_append, bl_append, ← hF1.out, ← hF2.out, bl_of, bl_of, List.append_assoc]; rfl)
      rw [← e]; rfl

end Go.Proofs.YtgdclneolgmggaaGreatDoor
