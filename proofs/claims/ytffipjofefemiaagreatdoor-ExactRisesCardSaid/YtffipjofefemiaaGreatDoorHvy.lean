/- The contracts of wideAll and heavy. For all curves. -/
import Derived.Test.YtffipjofefemiaaGreatDoorCrv
namespace Go.Proofs.YtffipjofefemiaaGreatDoor
open Go.RowKit Kb

/-- The slice at B reads as the fractions Q i, in whatever form; wd tells which have more than 12 limbs. -/
def Sq0 (w : World) (B0 : Nat) (B : Option Addr) (m : Nat) (Q : Nat → Rat) (wd : Nat → Bool) : Prop := ∀ i, i < m → ∃ ad s1 A1 n1 c1 s2 A2 n2 c2 N D, B = some ad ∧ ad.block < B0 ∧ w.cell? (ad.add (i * 4)) = some (.bool s1) ∧ w.cell? ⟨(ad.add (i * 4)).block, (ad.add (i * 4)).off + 1, none⟩ = some (.slice A1 n1 c1) ∧ w.cell? ⟨(ad.add (i * 4)).block, (ad.add (i * 4)).off + 2, none⟩ = some (.bool s2) ∧ w.cell? ⟨(ad.add (i * 4)).block, (ad.add (i * 4)).off + 3, none⟩ = some (.slice A2 n2 c2) ∧ Zi w s1 A1 n1 c1 N ∧ Zi w s2 A2 n2 c2 D ∧ Le n1 N ∧ Le n2 D ∧ Hid (rv N D = Q i) ∧ Hid (wd i = decide (12 < n1 ∨ 12 < n2))
section
variable {w w' : World} {B0 m : Nat} {B : Option Addr} {Q : Nat → Rat} {wd : Nat → Bool}
theorem Sq0.below (h : Sq0 w B0 B m Q wd) (hb : Below w.heap.size w w') (hB : B0 ≤ w.heap.size) : Sq0 w' B0 B m Q wd := fun i hi => by
  obtain ⟨ad, s1, A1, n1, c1, s2, A2, n2, c2, N, D, e, h1, h2, h3, h4, h5, h6, h7, h8⟩ := h i hi
  have l : ad.block < w.heap.size := by omega
  exact ⟨ad, s1, A1, n1, c1, s2, A2, n2, c2, N, D, e, h1, (hb.cell (p := ad.add (i * 4)) (in_add l)).trans h2, (hb.cell (p := ⟨(ad.add (i * 4)).block, (ad.add (i * 4)).off + 1, none⟩) (in_add l)).trans h3, (hb.cell (p := ⟨(ad.add (i * 4)).block, (ad.add (i * 4)).off + 2, none⟩) (in_add l)).trans h4, (hb.cell (p := ⟨(ad.add (i * 4)).block, (ad.add (i * 4)).off + 3, none⟩) (in_add l)).trans h5, h6.below hb, h7.below hb, h8⟩
theorem Sq0.few (h : Sq0 w B0 B m Q wd) (hw : ∀ i, i < m → wd i = false) : Sq w B0 B m 12 Q := fun i hi => by
  obtain ⟨ad, s1, A1, n1, c1, s2, A2, n2, c2, N, D, e, h1, h2, h3, h4, h5, h6, h7, h8, h9, h10, h11⟩ := h i hi
  have hf := hw i hi
  rw [h11.out] at hf
  have hf' := of_decide_eq_false hf
  exact ⟨ad, s1, A1, n1, c1, s2, A2, n2, c2, e, h1, h2, h3, h4, h5, ⟨⟨N, D, h6, h7, h10.out, h8.mono (by omega), h9.mono (by omega)⟩, by omega, by omega⟩⟩
end
set_option maxRecDepth 100000 in
set_option maxHeartbeats 8000000 in
theorem wideAll_no {w : World} {B : Option Addr} {m d B0 : Nat} {Q : Nat → Rat} {wd : Nat → Bool} (h : Sq0 w B0 B m Q wd) (hB : B0 ≤ w.heap.size) (hm : m ≤ 60) (hw : ∀ i, i < m → wd i = false) :
    Calls Tryz.prog 79 #[.slice B m d, .int .i64 60] w fun e w' => e = .returned (.bool false) ∧ Below w.heap.size w w' := by
  have hd : decide ((60 : Int) < (m : Int)) = false := decide_eq_false (by omega)
  have HW := hid hw
  clear hw
  go_enter Tryz.func79, Tryz.ntmps79
  go_wp2
  go_loopw [5] (fun iv wr => ∃ i : Nat, i ≤ m ∧ iv = .int .i64 i ∧ Below w.heap.size w wr) (fun iv _ => m - (intOf iv).toNat)
  case atStart => exact ⟨0, Nat.zero_le _, rfl, Below.refl _ _⟩
  case round =>
    obtain ⟨i, hi, rfl, hbel⟩ := hrel
    by_cases hlt : i < m
    · obtain ⟨ad, s1, A1, n1, c1, s2, A2, n2, c2, N, D, hA, -, q0, q1, q2, q3, -, -, -, -, -, hwi⟩ := h.below hbel hB i hlt
      have hf := of_decide_eq_false (hwi.out.symm.trans (HW.out i hlt))
      have Hbel := hid hbel
      clear hbel h hwi
      subst hA
      go_wp2_with fail
      refine (wide_no (by omega) (by omega)).mono ?_
      rintro e w2 ⟨rfl, hb2⟩
      have hB2 := hid (Hbel.out.trans (hb2.mono Hbel.out.size))
      clear hb2 q0 q1 q2 q3
      go_wp2
      go_roundw
      case rel => exact ⟨i + 1, by omega, by go_num, hB2.out⟩
      case measure => simp [intOf]; omega
    · have : i = m := by omega
      subst this
      go_wp2
      go_ret
      exact ⟨rfl, hbel⟩
set_option maxRecDepth 100000 in
set_option maxHeartbeats 8000000 in
theorem wideAll_yes {w : World} {B : Option Addr} {m d B0 : Nat} {Q : Nat → Rat} {wd : Nat → Bool} (h : Sq0 w B0 B m Q wd) (hB : B0 ≤ w.heap.size) (hw : 60 < m ∨ (m ≤ 60 ∧ ∃ i, i < m ∧ wd i = true)) :
    Calls Tryz.prog 79 #[.slice B m d, .int .i64 60] w fun e w' => e = .returned (.bool true) ∧ Below w.heap.size w w' := by
  rcases hw with hm | ⟨hm, hw⟩
  · have hd : decide ((60 : Int) < (m : Int)) = true := decide_eq_true (by omega)
    clear h hm
    go_enter Tryz.func79, Tryz.ntmps79
    go_wp2
    go_ret
    exact ⟨rfl, Below.refl _ _⟩
  · have hd : decide ((60 : Int) < (m : Int)) = false := decide_eq_false (by omega)
    have HW := hid hw
    clear hw
    go_enter Tryz.func79, Tryz.ntmps79
    go_wp2
    go_loopw [5] (fun iv wr => ∃ i : Nat, i ≤ m ∧ iv = .int .i64 i ∧ Hid (∀ j, j < i → wd j = false) ∧ Below w.heap.size w wr) (fun iv _ => m - (intOf iv).toNat)
    case atStart => exact ⟨0, Nat.zero_le _, rfl, hid (fun j hj => absurd hj (Nat.not_lt_zero _)), Below.refl _ _⟩
    case round =>
      obtain ⟨i, hi, rfl, HN, hbel⟩ := hrel
      by_cases hlt : i < m
      · obtain ⟨ad, s1, A1, n1, c1, s2, A2, n2, c2, N, D, hA, -, q0, q1, q2, q3, -, -, -, -, -, hwi⟩ := h.below hbel hB i hlt
        have Hbel := hid hbel
        clear hbel h
        subst hA
        by_cases hwd : wd i = true
        · have hf := of_decide_eq_true (hwi.out.symm.trans hwd)
          clear hwi hwd
          go_wp2_with fail
          refine (wide_yes (by omega)).mono ?_
          rintro e w2 ⟨rfl, hb2⟩
          have hB2 := hid (Hbel.out.trans (hb2.mono Hbel.out.size))
          clear hb2 q0 q1 q2 q3 hf
          go_wp2
          go_ret
          exact ⟨rfl, hB2.out⟩
        · have hwf : wd i = false := by simpa using hwd
          have hf := of_decide_eq_false (hwi.out.symm.trans hwf)
          have HF := hid hwf
          clear hwi hwd hwf
          go_wp2_with fail
          refine (wide_no (by omega) (by omega)).mono ?_
          rintro e w2 ⟨rfl, hb2⟩
          have hB2 := hid (Hbel.out.trans (hb2.mono Hbel.out.size))
          clear hb2 q0 q1 q2 q3 hf
          go_wp2
          go_roundw
          case rel => exact ⟨i + 1, by omega, by go_num, hid (fun j hj => by rcases Nat.lt_or_ge j i with h | h; exact HN.out j h; have : j = i := (by omega); subst this; exact HF.out), hB2.out⟩
          case measure => simp [intOf]; omega
      · exfalso
        obtain ⟨j, hj, hjw⟩ := HW.out
        have := HN.out j (by omega)
        rw [this] at hjw
        cases hjw
section
variable {w : World} {A B : Option Addr} {n c m d B0 : Nat} {Q : Nat → Rat} {wd : Nat → Bool}
set_option maxRecDepth 100000 in
set_option maxHeartbeats 8000000 in
theorem heavy_yes (h : Sq0 w B0 B m Q wd) (hB : B0 ≤ w.heap.size) (hv : 60 < n ∨ (n ≤ 60 ∧ (60 < m ∨ (m ≤ 60 ∧ ∃ i, i < m ∧ wd i = true))) ∨ (n ≤ 40 ∧ 12 < n ∧ m ≤ 60 ∧ ∀ i, i < m → wd i = false)) :
    Calls Tryz.prog 32 #[.agg #[.slice A n c, .slice B m d]] w fun e w' => e = .returned (.bool true) ∧ Below w.heap.size w w' := by
  have hb0 := alo (W := w) (o := (.cells #[.slice A n c, .slice B m d] 48))
  have j1 := Bk.of_alloc w (.cells #[.slice A n c, .slice B m d] 48) rfl
  have h0 := h.below hb0 hB
  have hB' := Nat.le_trans hB hb0.size
  clear h
  rcases hv with h1 | ⟨h1, h2⟩ | ⟨h1, h2, h3, h4⟩
  · have hd : decide ((60 : Int) < (n : Int)) = true := decide_eq_true (by omega)
    clear h0 j1
    go_enter Tryz.func32, Tryz.ntmps32
    go_wp2
    go_ret
    exact ⟨by simp, hb0⟩
  · have hd : decide ((60 : Int) < (n : Int)) = false := decide_eq_false (by omega)
    have H2 := hid h2
    clear h2
    go_enter Tryz.func32, Tryz.ntmps32
    go_wp2_with fail
    refine (wideAll_yes h0 hB' H2.out).mono ?_
    rintro e w1 ⟨rfl, hb1⟩
    have hE := hid (bthen hb0 hb1 (Nat.le_refl _))
    clear hb1 h0 hb0
    go_wp2
    go_ret
    exact ⟨by simp, hE.out⟩
  · have hd : decide ((60 : Int) < (n : Int)) = false := decide_eq_false (by omega)
    have hd2 : decide ((n : Int) ≤ 40) = true := decide_eq_true (by omega)
    have hd3 : decide ((12 : Int) < (n : Int)) = true := decide_eq_true (by omega)
    have H4 := hid h4
    clear h4
    go_enter Tryz.func32, Tryz.ntmps32
    go_wp2_with fail
    refine (wideAll_no h0 hB' h3 H4.out).mono ?_
    rintro e w1 ⟨rfl, hb1⟩
    have hE := hid (bthen hb0 hb1 (Nat.le_refl _))
    have j2 := j1.step hb1
    obtain ⟨x0, x1, -, -⟩ := j2.c2
    clear hb1 h0 hb0
    go_wp2
    go_ret
    exact ⟨by simp, hE.out⟩
set_option maxRecDepth 100000 in
set_option maxHeartbeats 8000000 in
theorem heavy_no (h : Sq0 w B0 B m Q wd) (hB : B0 ≤ w.heap.size) (hn : n ≤ 60) (hm : m ≤ 60) (hw : ∀ i, i < m → wd i = false) (ho : 40 < n ∨ n ≤ 12) :
    Calls Tryz.prog 32 #[.agg #[.slice A n c, .slice B m d]] w fun e w' => e = .returned (.bool false) ∧ Below w.heap.size w w' := by
  have hb0 := alo (W := w) (o := (.cells #[.slice A n c, .slice B m d] 48))
  have j1 := Bk.of_alloc w (.cells #[.slice A n c, .slice B m d] 48) rfl
  have h0 := h.below hb0 hB
  have hB' := Nat.le_trans hB hb0.size
  have hd : decide ((60 : Int) < (n : Int)) = false := decide_eq_false (by omega)
  have H4 := hid hw
  clear h hw
  rcases ho with h2 | h2
  · have hd2 : decide ((n : Int) ≤ 40) = false := decide_eq_false (by omega)
    go_enter Tryz.func32, Tryz.ntmps32
    go_wp2_with fail
    refine (wideAll_no h0 hB' hm H4.out).mono ?_
    rintro e w1 ⟨rfl, hb1⟩
    have hE := hid (bthen hb0 hb1 (Nat.le_refl _))
    have j2 := j1.step hb1
    obtain ⟨x0, x1, -, -⟩ := j2.c2
    clear hb1 h0 hb0
    go_wp2
    go_ret
    exact ⟨by simp, hE.out⟩
  · have hd2 : decide ((n : Int) ≤ 40) = true := decide_eq_true (by omega)
    have hd3 : decide ((12 : Int) < (n : Int)) = false := decide_eq_false (by omega)
    go_enter Tryz.func32, Tryz.ntmps32
    go_wp2_with fail
    refine (wideAll_no h0 hB' hm H4.out).mono ?_
    rintro e w1 ⟨rfl, hb1⟩
    have hE := hid (bthen hb0 hb1 (Nat.le_refl _))
    have j2 := j1.step hb1
    obtain ⟨x0, x1, -, -⟩ := j2.c2
    clear hb1 h0 hb0
    go_wp2
    go_ret
    exact ⟨by simp, hE.out⟩
end

end Go.Proofs.YtffipjofefemiaaGreatDoor
