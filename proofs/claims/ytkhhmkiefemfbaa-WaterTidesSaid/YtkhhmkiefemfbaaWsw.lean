/- The walk of WaterTides. For all lists of marks, and all minutes. -/
import Derived.Test.YtkhhmkiefemfbaaWsk
import Derived.Test.YtkhhmkiefemfbaaWba
namespace Go.Proofs.Ytkhhmkiefemfbaa
open Go.RowKit Kb Wb

theorem mks_get (F L : Nat → Int) : ∀ (l : List Nat) (i : Nat), i < l.length → (mks F L l)[i * 2]? = some (.int .i64 (F (l.getD i 0))) ∧ (mks F L l)[i * 2 + 1]? = some (.int .i64 (L (l.getD i 0)))
  | [], i, h => absurd h (Nat.not_lt_zero _)
  | a :: l, 0, _ => ⟨rfl, rfl⟩
  | a :: l, i + 1, h => by
    have ih := mks_get F L l i (by simpa using h)
    have e : mks F L (a :: l) = .int .i64 (F a) :: .int .i64 (L a) :: mks F L l := rfl
    rw [e, show (i + 1) * 2 = i * 2 + 1 + 1 by omega, List.getElem?_cons_succ, List.getElem?_cons_succ, List.getElem?_cons_succ, List.getElem?_cons_succ]
    simpa using ih
theorem hwl_mem {n : Nat} {L : Nat → Int} {k i : Nat} (h : i ∈ hwl n L k) : i < k := by
  unfold hwl at h
  have := (List.mem_filter.1 h).1
  simpa using this
/-- A row of marks that a call owns reads as pairs. -/
theorem pa_of_own {w : World} {B : Nat} {T : TypeId} {v : Value} {F L : Nat → Int} {l : List Nat} (h : w.ownsRow B T 2 v l.length (mks F L l)) (hr : ∀ i, i ∈ l → I64 (F i) ∧ I64 (L i)) :
    ∃ A c, v = .slice A l.length c ∧ Pa w w.heap.size A l.length (fun i => F (l.getD i 0)) (fun i => L (l.getD i 0)) := by
  rcases h.2 with ⟨hv, hn⟩ | ⟨g, cap, cur, hv, hb, hg, h1, h2, h3, h4⟩
  · exact ⟨none, 0, by rw [hv, hn], ⟨fun i hi => by omega, Nat.le_refl _⟩⟩
  · have hgl := (Array.getElem?_eq_some_iff.1 hg).1
    refine ⟨some ⟨g, 0, none⟩, cap, hv, ⟨fun i hi => ?_, Nat.le_refl _⟩⟩
    obtain ⟨m0, m1⟩ := mks_get F L l i hi
    have c0 := h.cells (g := g) (by rw [hv]; rfl) _ _ m0
    have c1 := h.cells (g := g) (by rw [hv]; rfl) _ _ m1
    have hm : l.getD i 0 ∈ l := by
      rw [List.getD_eq_getElem?_getD, List.getElem?_eq_getElem hi]
      exact List.getElem_mem hi
    refine ⟨⟨g, 0, none⟩, rfl, hgl, c0, ?_, (hr _ hm).1, (hr _ hm).2⟩
    rw [← add_at ((⟨g, 0, none⟩ : Addr).add (i * 2)) 0, add_of_add]
    exact c1
theorem sea_i64 {n : Nat} {F L : Nat → Int} (h : Sea n F L) : ∀ i, i ∈ hwl n L n → I64 (F i) ∧ I64 (L i) := fun i hi => by
  have a := h.f i (hwl_mem hi)
  have b := h.l i (hwl_mem hi)
  exact ⟨⟨by omega, by omega⟩, ⟨by omega, by omega⟩⟩

section
variable {w : World} {B0 n c : Nat} {A : Option Addr} {F L : Nat → Int}
theorem CheckSea_is {q : Int} (hq : Hid (Cs n F L q)) (h : Pa w B0 A n F L) (hn : n ≤ maxLen) :
    Calls Try.prog 18 #[.slice A n c] w fun e w' => e = .returned (.int .i64 q) ∧ Below w.heap.size w w' :=
  (CheckSea_any h hn).mono fun _ _ ⟨r, he, hr, hb⟩ => ⟨by rw [he, hr.out.same hq.out], hb⟩
theorem rCheckSea_is {q : Int} (hq : Hid (Cs n F L q)) (h : Pa w B0 A n F L) (hn : n ≤ maxLen) :
    Calls Try.prog 17 #[.slice A n c] w fun e w' => e = .returned (.int .i64 q) ∧ Below w.heap.size w w' :=
  (rCheckSea_any h hn).mono fun _ _ ⟨r, he, hr, hb⟩ => ⟨by rw [he, hr.out.same hq.out], hb⟩
set_option maxRecDepth 100000 in
theorem HighWaters_err {q : Int} (hq : Hid (Cs n F L q)) (h : Pa w B0 A n F L) (hn : n ≤ maxLen) (h0 : q ≠ 0) :
    Calls Try.prog 16 #[.slice A n c] w fun e w' => e = .returned (.tuple #[.slice none 0 0, .int .i64 q]) ∧ Below w.heap.size w w' := by
  have hq1 : (q != 0) = true := by rw [bne_iff_ne]; exact h0
  go_enter Try.func16, Try.ntmps16
  go_wp2_with fail
  refine ((CheckSea_is hq h hn).mono ?_)
  rintro e w1 ⟨rfl, hb⟩
  have HB := hid hb
  clear hb h0 h
  go_wp2
  go_ret2
  exact ⟨rfl, HB.out⟩
end

set_option maxRecDepth 100000 in
set_option maxHeartbeats 8000000 in
theorem tides_walk {w : World} {n c : Nat} {A : Option Addr} {F L : Nat → Int} (t : Int) (h : Pa w w.heap.size A n F L) (hnc : n ≤ c) (hc : c ≤ maxLen) :
    Calls Try.prog 5 #[.slice A n c, .int .i64 t] w fun e w' => e = .returned (.bool true) ∧ Below w.heap.size w w' := by
  have hn := hid (Nat.le_trans hnc hc)
  have hnm : n ≤ 9223372036854775807 := by unfold maxLen at hc; omega
  have Hnc := hid hnc
  clear hnc hc
  go_enter Try.func5, Try.ntmps5
  go_wp2_with fail
  refine (awake_any _).mono ?_
  rintro e w1 ⟨rfl, hb⟩
  have K1 := h.below hb
  have HB1 := hid hb
  have Hh := hid h
  clear hb h
  by_cases h40 : 40 < n ∧ n ≤ 400
  · have hd : decide ((40 : Int) < (n : Int)) = true := decide_eq_true (by omega)
    have hd2 : decide ((n : Int) ≤ 400) = true := decide_eq_true (by omega)
    clear h40
    go_wp2
    go_ret
    exact ⟨rfl, HB1.out⟩
  · have hd : (decide ((40 : Int) < (n : Int)) && decide ((n : Int) ≤ 400)) = false := by
      rw [Bool.and_eq_false_iff]
      by_cases h4 : 40 < n
      · exact .inr (decide_eq_false (by omega))
      · exact .inl (decide_eq_false (by omega))
    clear h40
    by_cases h4 : 40 < n
    · have hd1 : decide ((40 : Int) < (n : Int)) = true := decide_eq_true (by omega)
      have hd2 : decide ((n : Int) ≤ 400) = false := by simpa [hd1] using hd
      clear hd
      go_wp2_with fail
      refine (Tide_any t K1 hn.out).mono ?_
      rintro e w2 ⟨r1, x1, rfl, hz, hb⟩
      have K2 := K1.below hb
      have HB2 := hid (bthen HB1.out hb (Nat.le_refl _))
      clear hb K1
      go_wp2_with fail
      refine (rTide_any t K2 hn.out).mono ?_
      rintro e w3 ⟨r2, x2, rfl, hz2, hb⟩
      obtain ⟨rfl, rfl⟩ := hz.out.same hz2.out
      have K3 := K2.below hb
      have HB3 := hid (bthen HB2.out hb (Nat.le_refl _))
      clear hb K2 hz2
      obtain ⟨q, hq0, -⟩ := hz.out
      have hq := hid hq0
      clear hq0 hz
      by_cases q0 : q = 0
      · subst q0
        have hS := hq.out.sea
        have I := hid (sea_i64 hS)
        have hlen := hwl_len (n := n) (L := L) n
        have hn4 := hS.most
        go_wp2_with fail
        refine (HighWaters_ok K3 hn.out Hnc.out hq).mono ?_
        rintro e w4 ⟨v1, rfl, hown, hb⟩
        have K4 := K3.below hb
        have HB4 := hid (bthen HB3.out hb (Nat.le_refl _))
        obtain ⟨A1, c1, rfl, P4⟩ := pa_of_own hown.out I.out
        clear hb K3 hown
        obtain ⟨G, hG⟩ : ∃ G, (fun i => F ((hwl n L n).getD i 0)) = G := ⟨_, rfl⟩
        obtain ⟨M, hM⟩ : ∃ M, (fun i => L ((hwl n L n).getD i 0)) = M := ⟨_, rfl⟩
        rw [hG, hM] at P4
        have HG := hid hG
        have HM := hid hM
        clear hG hM
        obtain ⟨k, hk⟩ : ∃ k, (hwl n L n).length = k := ⟨_, rfl⟩
        have Hk := hid hk
        rw [hk] at P4 hlen ⊢
        clear hk
        go_wp2_with fail
        refine (rCheckSea_is hq K4 hn.out).mono ?_
        rintro e w5 ⟨rfl, hb⟩
        have K5 := K4.below hb
        have P5 := P4.below hb
        have HB5 := hid (bthen HB4.out hb (Nat.le_refl _))
        clear hb K4 P4
        go_wp2_with fail
        refine (CheckSea_is hq K5 hn.out).mono ?_
        rintro e w6 ⟨rfl, hb⟩
        have K6 := K5.below hb
        have P6 := P5.below hb
        have HB6 := hid (bthen HB5.out hb (Nat.le_refl _))
        clear hb K5 P5
        go_wp2_with fail
        refine (rHighWaters_ok K6 hS).mono ?_
        rintro e w7 ⟨v2, rfl, hown, hb⟩
        have P7 := P6.below hb
        have HB7 := hid (bthen HB6.out hb (Nat.le_refl _))
        obtain ⟨A2, c2, rfl, Q7⟩ := pa_of_own hown.out I.out
        rw [HG.out, HM.out, Hk.out] at Q7
        rw [Hk.out]
        clear hb K6 hown P6
        go_wp2_with fail
        go_loopw [13] (fun iv wr => ∃ i : Nat, i ≤ k ∧ iv = .int .i64 i ∧ Below w7.heap.size w7 wr) (fun iv _ => k - (intOf iv).toNat)
        case atStart => exact ⟨0, Nat.zero_le _, rfl, Below.refl _ _⟩
        case round =>
          obtain ⟨i, hi, rfl, hbel⟩ := hrel
          have P8 := P7.below hbel
          have Q8 := Q7.below hbel
          have HB8 := hid (bthen HB7.out hbel (Nat.le_refl _))
          have Hbel := hid hbel
          clear hbel
          by_cases hlt : i < k
          · obtain ⟨a1, hA1, -, q0, q1, -, -⟩ := P8.at_ i hlt
            obtain ⟨a2, hA2, -, r0, r1, -, -⟩ := Q8.at_ i hlt
            subst hA1
            subst hA2
            go_wp2
            go_quiet (fail)
            go_wp2
            go_roundw
            case rel => exact ⟨i + 1, by omega, by go_num, Hbel.out.drewN' _⟩
            case measure => simp [intOf]; omega
          · obtain rfl : i = k := by omega
            go_wp2
            go_ret
            exact ⟨rfl, HB8.out⟩
      · have hq1 : (q != 0) = true := by rw [bne_iff_ne]; exact q0
        go_wp2_with fail
        refine (HighWaters_err hq K3 hn.out q0).mono ?_
        rintro e w4 ⟨rfl, hb⟩
        have K4 := K3.below hb
        have HB4 := hid (bthen HB3.out hb (Nat.le_refl _))
        clear hb K3 q0
        go_wp2_with fail
        refine (rCheckSea_is hq K4 hn.out).mono ?_
        rintro e w5 ⟨rfl, hb⟩
        have K5 := K4.below hb
        have HB5 := hid (bthen HB4.out hb (Nat.le_refl _))
        clear hb K4
        go_wp2_with fail
        refine (CheckSea_is hq K5 hn.out).mono ?_
        rintro e w6 ⟨rfl, hb⟩
        have HB6 := hid (bthen HB5.out hb (Nat.le_refl _))
        clear hb K5
        go_wp2
        go_ret
        exact ⟨rfl, HB6.out⟩
    · have hd1 : decide ((40 : Int) < (n : Int)) = false := decide_eq_false (by omega)
      clear hd
      go_wp2_with fail
      refine (Tide_any t K1 hn.out).mono ?_
      rintro e w2 ⟨r1, x1, rfl, hz, hb⟩
      have K2 := K1.below hb
      have HB2 := hid (bthen HB1.out hb (Nat.le_refl _))
      clear hb K1
      go_wp2_with fail
      refine (rTide_any t K2 hn.out).mono ?_
      rintro e w3 ⟨r2, x2, rfl, hz2, hb⟩
      obtain ⟨rfl, rfl⟩ := hz.out.same hz2.out
      have K3 := K2.below hb
      have HB3 := hid (bthen HB2.out hb (Nat.le_refl _))
      clear hb K2 hz2
      obtain ⟨q, hq0, -⟩ := hz.out
      have hq := hid hq0
      clear hq0 hz
      by_cases q0 : q = 0
      · subst q0
        have hS := hq.out.sea
        have I := hid (sea_i64 hS)
        have hlen := hwl_len (n := n) (L := L) n
        have hn4 := hS.most
        go_wp2_with fail
        refine (HighWaters_ok K3 hn.out Hnc.out hq).mono ?_
        rintro e w4 ⟨v1, rfl, hown, hb⟩
        have K4 := K3.below hb
        have HB4 := hid (bthen HB3.out hb (Nat.le_refl _))
        obtain ⟨A1, c1, rfl, P4⟩ := pa_of_own hown.out I.out
        clear hb K3 hown
        obtain ⟨G, hG⟩ : ∃ G, (fun i => F ((hwl n L n).getD i 0)) = G := ⟨_, rfl⟩
        obtain ⟨M, hM⟩ : ∃ M, (fun i => L ((hwl n L n).getD i 0)) = M := ⟨_, rfl⟩
        rw [hG, hM] at P4
        have HG := hid hG
        have HM := hid hM
        clear hG hM
        obtain ⟨k, hk⟩ : ∃ k, (hwl n L n).length = k := ⟨_, rfl⟩
        have Hk := hid hk
        rw [hk] at P4 hlen ⊢
        clear hk
        go_wp2_with fail
        refine (rCheckSea_is hq K4 hn.out).mono ?_
        rintro e w5 ⟨rfl, hb⟩
        have K5 := K4.below hb
        have P5 := P4.below hb
        have HB5 := hid (bthen HB4.out hb (Nat.le_refl _))
        clear hb K4 P4
        go_wp2_with fail
        refine (CheckSea_is hq K5 hn.out).mono ?_
        rintro e w6 ⟨rfl, hb⟩
        have K6 := K5.below hb
        have P6 := P5.below hb
        have HB6 := hid (bthen HB5.out hb (Nat.le_refl _))
        clear hb K5 P5
        go_wp2_with fail
        refine (rHighWaters_ok K6 hS).mono ?_
        rintro e w7 ⟨v2, rfl, hown, hb⟩
        have P7 := P6.below hb
        have HB7 := hid (bthen HB6.out hb (Nat.le_refl _))
        obtain ⟨A2, c2, rfl, Q7⟩ := pa_of_own hown.out I.out
        rw [HG.out, HM.out, Hk.out] at Q7
        rw [Hk.out]
        clear hb K6 hown P6
        go_wp2_with fail
        go_loopw [13] (fun iv wr => ∃ i : Nat, i ≤ k ∧ iv = .int .i64 i ∧ Below w7.heap.size w7 wr) (fun iv _ => k - (intOf iv).toNat)
        case atStart => exact ⟨0, Nat.zero_le _, rfl, Below.refl _ _⟩
        case round =>
          obtain ⟨i, hi, rfl, hbel⟩ := hrel
          have P8 := P7.below hbel
          have Q8 := Q7.below hbel
          have HB8 := hid (bthen HB7.out hbel (Nat.le_refl _))
          have Hbel := hid hbel
          clear hbel
          by_cases hlt : i < k
          · obtain ⟨a1, hA1, -, q0, q1, -, -⟩ := P8.at_ i hlt
            obtain ⟨a2, hA2, -, r0, r1, -, -⟩ := Q8.at_ i hlt
            subst hA1
            subst hA2
            go_wp2
            go_quiet (fail)
            go_wp2
            go_roundw
            case rel => exact ⟨i + 1, by omega, by go_num, Hbel.out.drewN' _⟩
            case measure => simp [intOf]; omega
          · obtain rfl : i = k := by omega
            go_wp2
            go_ret
            exact ⟨rfl, HB8.out⟩
      · have hq1 : (q != 0) = true := by rw [bne_iff_ne]; exact q0
        go_wp2_with fail
        refine (HighWaters_err hq K3 hn.out q0).mono ?_
        rintro e w4 ⟨rfl, hb⟩
        have K4 := K3.below hb
        have HB4 := hid (bthen HB3.out hb (Nat.le_refl _))
        clear hb K3 q0
        go_wp2_with fail
        refine (rCheckSea_is hq K4 hn.out).mono ?_
        rintro e w5 ⟨rfl, hb⟩
        have K5 := K4.below hb
        have HB5 := hid (bthen HB4.out hb (Nat.le_refl _))
        clear hb K4
        go_wp2_with fail
        refine (CheckSea_is hq K5 hn.out).mono ?_
        rintro e w6 ⟨rfl, hb⟩
        have HB6 := hid (bthen HB5.out hb (Nat.le_refl _))
        clear hb K5
        go_wp2
        go_ret
        exact ⟨rfl, HB6.out⟩

end Go.Proofs.Ytkhhmkiefemfbaa
