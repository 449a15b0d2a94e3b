/- Mooring lines: Span; spans, slack of the law. For all lines. -/
import Derived.Test.YtkenanicohoigaaBl3
namespace Go.Proofs.Ytkenanicohoigaa
open Go.RowKit Go.Maps Kb Wb


/-- One line alone. -/
theorem Mll.one {w : World} (x : Mld) {g B0 : Nat} (h : Mlb w g x) (hg : g < B0) (hB : B0 ≤ w.heap.size) : Mll w B0 (some ⟨g, 0, none⟩) 1 fun _ => x :=
  ⟨fun i hi => by
    obtain rfl : i = 0 := by omega
    obtain ⟨y0, y1, y2, y3, y4, y5⟩ := h.cells
    refine ⟨⟨g, 0, none⟩, rfl, hg, ?_⟩
    rw [Nat.zero_mul, addr_zero]
    exact ⟨y0, (by simpa using y1), (by simpa using y2), (by simpa using y3), (by simpa using y4), (by simpa using y5)⟩, hB⟩
/-- What is said of one line alone. -/
theorem Mlq.one (x : Mld) : Mlq 1 (fun _ => x) (if nameB x.nm = true then lineE x else 4) := by
  refine .inr ⟨by decide, ?_⟩
  by_cases hn : nameB x.nm = true
  · rw [if_pos hn]
    by_cases h0 : lineE x = 0
    · exact .inr ⟨fun j _ => ⟨hn, fun k hk => by omega, h0.symm⟩, h0⟩
    · exact .inl ⟨0, by decide, fun j hj => absurd hj (Nat.not_lt_zero _), .inr (.inr ⟨hn, fun k hk => absurd hk (Nat.not_lt_zero _), rfl, h0⟩)⟩
  · rw [if_neg hn]
    exact .inl ⟨0, by decide, fun j hj => absurd hj (Nat.not_lt_zero _), .inl ⟨Bool.eq_false_iff.2 hn, rfl⟩⟩
/-- r and q are what Span answers. -/
def Spq (x : Mld) (r q : Int) : Prop := (q ≠ 0 ∧ r = 0) ∨ (q = 0 ∧ lineE x = 0 ∧ Spn (dist2 x) r)
set_option maxRecDepth 100000 in
set_option maxHeartbeats 8000000 in
theorem Span_any {w : World} (x : Mld) {q : Int} (hq : Hid (Mlq 1 (fun _ => x) q)) (hs : x.nm.size ≤ 1000000000) :
    Calls Try.prog 18 #[.agg #[.string x.nm, .int .i64 x.x, .int .i64 x.y, .int .i64 x.tx, .int .i64 x.ty, .int .i64 x.most]] w fun e w' => ∃ r : Int, e = .returned (.tuple #[.int .i64 r, .int .i64 q]) ∧ Hid (Spq x r q) ∧ Below w.heap.size w w' := by
  obtain ⟨g, hg⟩ : ∃ g, w.heap.size = g := ⟨_, rfl⟩
  have hb0 := (alo (W := w) (o := (.cells #[.string x.nm, .int .i64 x.x, .int .i64 x.y, .int .i64 x.tx, .int .i64 x.ty, .int .i64 x.most] 46)))
  have K := Mlb.new w x hg
  go_enter Try.func18, Try.ntmps18
  obtain ⟨y0, y1, y2, y3, y4, y5⟩ := K.cells
  go_wp2_with fail
  have hg1 : (w.alloc (.cells #[.string x.nm, .int .i64 x.x, .int .i64 x.y, .int .i64 x.tx, .int .i64 x.ty, .int .i64 x.most] 46)).heap.size = g + 1 := by simp [hg]
  generalize w.alloc (.cells #[.string x.nm, .int .i64 x.x, .int .i64 x.y, .int .i64 x.tx, .int .i64 x.ty, .int .i64 x.most] 46) = W0 at *
  have HB0 := hid hb0
  have Hg := hid hg
  clear hb0 hg y0 y1 y2 y3 y4 y5
  have hb1 := alo (W := W0) (o := (.cells #[.string x.nm, .int .i64 x.x, .int .i64 x.y, .int .i64 x.tx, .int .i64 x.ty, .int .i64 x.most] 46))
  have K1 := Mlb.new W0 x hg1
  have K2 := K.below hb1
  have O := Mll.one x K1 (Nat.lt_succ_self _) (by simp [hg1])
  have HB1 := hid (bthen HB0.out hb1 (Nat.le_refl _))
  generalize hW1 : W0.alloc (.cells #[.string x.nm, .int .i64 x.x, .int .i64 x.y, .int .i64 x.tx, .int .i64 x.ty, .int .i64 x.most] 46) = W1 at *
  clear hb1 hW1 K1 K hg1
  refine (Mlcheck_is hq O (by decide) (fun _ _ => hs)).mono ?_
  rintro e w2 ⟨rfl, hb⟩
  have HB2 := hid (bthen HB1.out hb (Nat.le_refl _))
  have K3 := K2.below hb
  clear hb O K2
  obtain ⟨y0, y1, y2, y3, y4, y5⟩ := K3.cells
  by_cases q0 : q = 0
  · subst q0
    have hl : lineE x = 0 := by
      have := Mlq.same hq.out (Mlq.one x)
      by_cases hn : nameB x.nm = true
      · rw [if_pos hn] at this; exact this.symm
      · rw [if_neg hn] at this; exact absurd this (by decide)
    go_wp2_with fail
    refine (spanOf_any x hl).mono ?_
    rintro e w4 ⟨r, rfl, hr, hb⟩
    have HB4 := hid (bthen HB2.out hb (Nat.le_refl _))
    have HE := hid (show Spq x r 0 from .inr ⟨rfl, hl, hr.out⟩)
    clear hb y0 y1 y2 y3 y4 y5 K3 hl
    go_wp2
    go_ret2
    exact ⟨r, rfl, HE, HB4.out⟩
  · have hd : (q != 0) = true := by rw [bne_iff_ne]; exact q0
    have HE := hid (show Spq x 0 q from .inl ⟨q0, rfl⟩)
    clear q0
    go_wp2
    go_ret2
    exact ⟨0, rfl, HE, HB2.out⟩
theorem nameB_l : nameB ⟨#[108]⟩ = true := nameB_t ⟨by decide, by decide, fun i b h => by
  match i, h with
  | 0, h => injection h with h; subst h; exact .inl (by decide)⟩
set_option maxRecDepth 100000 in
set_option maxHeartbeats 8000000 in
theorem spans_any (w : World) :
    Calls Try.prog 14 #[] w fun e w' => e = .returned (.bool true) ∧ Below w.heap.size w w' := by
  have hq := hid (Mlq.one ⟨⟨#[108]⟩, 0, 0, 3000, 4000, 1000⟩)
  rw [if_pos nameB_l] at hq
  have e0 : lineE ⟨⟨#[108]⟩, 0, 0, 3000, 4000, 1000⟩ = 0 := by decide
  rw [e0] at hq
  go_enter Try.func14, Try.ntmps14
  go_wp2_with fail
  refine (Span_any ⟨⟨#[108]⟩, 0, 0, 3000, 4000, 1000⟩ hq (by decide)).mono ?_
  rintro e w2 ⟨r, rfl, hr, hb⟩
  have HB := hid hb
  clear hb
  obtain rfl : r = 5000 := by
    rcases hr.out with ⟨h, _⟩ | ⟨_, _, h⟩
    · exact absurd rfl h
    · exact h.same ⟨by decide, by decide, by decide, by decide⟩
  go_wp2
  go_ret
  exact ⟨rfl, HB.out⟩
/-- Whether a list of lines is one at which the statements look. -/
def SlB (n : Nat) (b : Nat → Mld) : Prop := (∀ i, i < n → (b i).nm.size ≤ 40) ∧ n ≤ 14
noncomputable def slB (n : Nat) (b : Nat → Mld) : Bool := @decide (SlB n b) (Classical.propDecidable _)
theorem slB_t {n : Nat} {b : Nat → Mld} (h : SlB n b) : slB n b = true := @decide_eq_true _ (Classical.propDecidable _) h
theorem slB_f {n : Nat} {b : Nat → Mld} (h : ¬ SlB n b) : slB n b = false := @decide_eq_false _ (Classical.propDecidable _) h
set_option maxRecDepth 100000 in
set_option maxHeartbeats 8000000 in
theorem slack_any {w : World} {B0 n c : Nat} {A : Option Addr} {b : Nat → Mld} (h : Mll w B0 A n b) (hn : n < 9223372036854775808) (hs : ∀ i, i < n → (b i).nm.size < 9223372036854775808) :
    Calls Try.prog 15 #[.slice A n c] w fun e w' => e = .returned (.bool (slB n b)) ∧ Below w.heap.size w w' := by
  have Hh := hid h
  have Hs := hid hs
  clear h hs
  go_enter Try.func15, Try.ntmps15
  go_wp2_with fail
  go_loopw [3] (fun iv wr => ∃ (i : Nat), i ≤ n ∧ iv = .int .i64 i ∧ Hid (∀ j, j < i → (b j).nm.size ≤ 40) ∧ Below w.heap.size w wr) (fun iv _ => n - (intOf iv).toNat)
  case atStart => exact ⟨0, Nat.zero_le _, rfl, hid (fun j hj => absurd hj (Nat.not_lt_zero _)), Below.refl _ _⟩
  case round =>
    obtain ⟨i, hi, rfl, HN, hbel⟩ := hrel
    have hw := Hh.out.below hbel
    have Hbel := hid hbel
    clear hbel
    by_cases hlt : i < n
    · obtain ⟨ad, hA, hl, q0, q1, q2, q3, q4, q5⟩ := hw.at_ i hlt
      subst hA
      have hs9 := Hs.out i hlt
      by_cases h40 : (b i).nm.size ≤ 40
      · have hd : decide ((40 : Int) < ((b i).nm.size : Int)) = false := decide_eq_false (by omega)
        have HN2 := hid (show ∀ j, j < i + 1 → (b j).nm.size ≤ 40 from fun j hj => by
          by_cases e : j = i
          · subst e; exact h40
          · exact HN.out j (by omega))
        clear h40
        go_wp2
        go_roundw
        case rel => exact ⟨i + 1, by omega, by go_num, HN2, Hbel.out⟩
        case measure => simp [intOf]; omega
      · have hd : decide ((40 : Int) < ((b i).nm.size : Int)) = true := decide_eq_true (by omega)
        have HE := hid (slB_f (n := n) (b := b) fun h => h40 (h.1 i hlt))
        clear h40
        go_wp2
        go_ret
        exact ⟨ret_bool HE.out.symm, Hbel.out⟩
    · obtain rfl : i = n := by omega
      by_cases h14 : i ≤ 14
      · have hd : decide ((i : Int) ≤ 14) = true := decide_eq_true (by omega)
        have HE := hid (slB_t (n := i) (b := b) ⟨HN.out, h14⟩)
        clear h14
        go_wp2
        go_ret
        exact ⟨ret_bool HE.out.symm, Hbel.out⟩
      · have hd : decide ((i : Int) ≤ 14) = false := decide_eq_false (by omega)
        have HE := hid (slB_f (n := i) (b := b) fun h => h14 h.2)
        clear h14
        go_wp2
        go_ret
        exact ⟨ret_bool HE.out.symm, Hbel.out⟩

end Go.Proofs.Ytkenanicohoigaa
