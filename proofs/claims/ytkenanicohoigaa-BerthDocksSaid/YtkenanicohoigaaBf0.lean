/- Docks and ships: Fits, CheckBoth. For all docks and ships. -/
import Derived.Test.YtkenanicohoigaaBd1
import Derived.Test.YtkenanicohoigaaBc1
namespace Go.Proofs.Ytkenanicohoigaa
open Go.RowKit Go.Maps Kb Wb

theorem ei_int {a b : Int} (h : a = b) : Ending.returned (.int .i64 a) = .returned (.int .i64 b) := by rw [h]
/-- The first error of two. -/
def e2 (a b : Int) : Int := if a ≠ 0 then a else b
theorem fe2' (W : World) (a b : Int) : Calls Try.prog 47 #[.slice (some ⟨W.heap.size, 0, none⟩) 2 2] (W.alloc (.cells #[.int .i64 a, .int .i64 b] 26)) fun e w' => e = .returned (.int .i64 (e2 a b)) ∧ (W.alloc (.cells #[.int .i64 a, .int .i64 b] 26)) = w' := fe2 W a b
theorem e2_l {a b : Int} (h : a ≠ 0) : e2 a b = a := if_pos h
theorem e2_r (b : Int) : e2 0 b = b := if_neg (fun h => h rfl)
theorem e2_0 {a b : Int} (h : e2 a b = 0) : a = 0 ∧ b = 0 := by
  by_cases ha : a = 0
  · subst ha; rw [e2_r] at h; exact ⟨rfl, h⟩
  · rw [e2_l ha] at h; exact absurd h ha

set_option maxRecDepth 100000 in
set_option maxHeartbeats 8000000 in
theorem dockError_is {w : World} {B0 n c : Nat} {A : Option Addr} {b : Nat → Cad} (d : Dkd) {qd qc : Int} (hd : Hid (Dkq 1 (fun _ => d) qd)) (hc : Hid (Caq n b qc)) (h : Cal w B0 A n b) (hn : n ≤ 1000) (hs : ∀ i, i < n → (b i).nm.size ≤ 1000000000) (hds : d.nm.size ≤ 1000000000) :
    Calls Try.prog 44 #[.agg #[.string d.nm, .int .i64 d.len, .int .i64 d.wid, .int .i64 d.sill, .int .i64 d.flr, .int .i64 d.gap], .slice A n c] w fun e w' => e = .returned (.int .i64 (e2 qd qc)) ∧ Below w.heap.size w w' := by
  obtain ⟨g, hg⟩ : ∃ g, w.heap.size = g := ⟨_, rfl⟩
  have hb0 := (alo (W := w) (o := (.cells #[.string d.nm, .int .i64 d.len, .int .i64 d.wid, .int .i64 d.sill, .int .i64 d.flr, .int .i64 d.gap] 34)))
  have K := Dkb.new w d hg
  have H0 := h.below hb0
  have Hs := hid hs
  clear h hs
  go_enter Try.func44, Try.ntmps44
  obtain ⟨y0, y1, y2, y3, y4, y5⟩ := K.cells
  go_wp2_with fail
  have hg1 : (w.alloc (.cells #[.string d.nm, .int .i64 d.len, .int .i64 d.wid, .int .i64 d.sill, .int .i64 d.flr, .int .i64 d.gap] 34)).heap.size = g + 1 := by simp [hg]
  generalize w.alloc (.cells #[.string d.nm, .int .i64 d.len, .int .i64 d.wid, .int .i64 d.sill, .int .i64 d.flr, .int .i64 d.gap] 34) = W0 at *
  have HB0 := hid hb0
  have Hg := hid hg
  clear hb0 hg y0 y1 y2 y3 y4 y5 K
  have hb1 := alo (W := W0) (o := (.cells #[.string d.nm, .int .i64 d.len, .int .i64 d.wid, .int .i64 d.sill, .int .i64 d.flr, .int .i64 d.gap] 34))
  have K1 := Dkb.new W0 d hg1
  have O := Dkl.one d K1 (Nat.lt_succ_self _) (by simp [hg1])
  have H1 := H0.below hb1
  have HB1 := hid (bthen HB0.out hb1 (Nat.le_refl _))
  generalize hW1 : W0.alloc (.cells #[.string d.nm, .int .i64 d.len, .int .i64 d.wid, .int .i64 d.sill, .int .i64 d.flr, .int .i64 d.gap] 34) = W1 at *
  clear hb1 hW1 K1 hg1 H0
  refine (Dkcheck_is hd O (by decide) (fun _ _ => hds)).mono ?_
  rintro e w2 ⟨rfl, hb⟩
  have HB2 := hid (bthen HB1.out hb (Nat.le_refl _))
  have H2 := H1.below hb
  clear hb O H1
  go_wp2_with fail
  refine (Cacheck_is hc H2 hn Hs.out).mono ?_
  rintro e w3 ⟨rfl, hb⟩
  have HB3 := hid (bthen HB2.out hb (Nat.le_refl _))
  clear hb H2
  go_wp2_with fail
  refine (fe2' _ qd qc).mono ?_
  rintro e w4 ⟨rfl, rfl⟩
  have HB4 := hid (HB3.out.alloc HB3.out.size (.cells #[.int .i64 qd, .int .i64 qc] 26))
  go_wp2
  go_ret
  exact ⟨rfl, HB4.out⟩

set_option maxRecDepth 100000 in
set_option maxHeartbeats 8000000 in
theorem CheckBoth_is {w : World} {B0 n c : Nat} {A : Option Addr} {b : Nat → Cad} (d : Dkd) {qd qc : Int} (hd : Hid (Dkq 1 (fun _ => d) qd)) (hc : Hid (Caq n b qc)) (h : Cal w B0 A n b) (hn : n ≤ 1000) (hs : ∀ i, i < n → (b i).nm.size ≤ 1000000000) (hds : d.nm.size ≤ 1000000000) :
    Calls Try.prog 12 #[.agg #[.string d.nm, .int .i64 d.len, .int .i64 d.wid, .int .i64 d.sill, .int .i64 d.flr, .int .i64 d.gap], .slice A n c] w fun e w' => e = .returned (.int .i64 (e2 qd qc)) ∧ Below w.heap.size w w' := by
  obtain ⟨g, hg⟩ : ∃ g, w.heap.size = g := ⟨_, rfl⟩
  have hb0 := (alo (W := w) (o := (.cells #[.string d.nm, .int .i64 d.len, .int .i64 d.wid, .int .i64 d.sill, .int .i64 d.flr, .int .i64 d.gap] 34)))
  have K := Dkb.new w d hg
  have H0 := h.below hb0
  have Hs := hid hs
  clear h hs
  go_enter Try.func12, Try.ntmps12
  obtain ⟨y0, y1, y2, y3, y4, y5⟩ := K.cells
  go_wp2_with fail
  have hg1 : (w.alloc (.cells #[.string d.nm, .int .i64 d.len, .int .i64 d.wid, .int .i64 d.sill, .int .i64 d.flr, .int .i64 d.gap] 34)).heap.size = g + 1 := by simp [hg]
  generalize w.alloc (.cells #[.string d.nm, .int .i64 d.len, .int .i64 d.wid, .int .i64 d.sill, .int .i64 d.flr, .int .i64 d.gap] 34) = W0 at *
  have HB0 := hid hb0
  have Hg := hid hg
  clear hb0 hg y0 y1 y2 y3 y4 y5 K
  have hb1 := alo (W := W0) (o := (.cells #[.string d.nm, .int .i64 d.len, .int .i64 d.wid, .int .i64 d.sill, .int .i64 d.flr, .int .i64 d.gap] 34))
  have K1 := Dkb.new W0 d hg1
  have O := Dkl.one d K1 (Nat.lt_succ_self _) (by simp [hg1])
  have H1 := H0.below hb1
  have HB1 := hid (bthen HB0.out hb1 (Nat.le_refl _))
  generalize hW1 : W0.alloc (.cells #[.string d.nm, .int .i64 d.len, .int .i64 d.wid, .int .i64 d.sill, .int .i64 d.flr, .int .i64 d.gap] 34) = W1 at *
  clear hb1 hW1 K1 hg1 H0
  refine (rDkcheck_is hd O (by decide) (fun _ _ => hds)).mono ?_
  rintro e w2 ⟨rfl, hb⟩
  have HB2 := hid (bthen HB1.out hb (Nat.le_refl _))
  have H2 := H1.below hb
  clear hb O H1
  by_cases q0 : qd = 0
  · subst q0
    go_wp2_with fail
    refine (rCacheck_is hc H2 hn Hs.out).mono ?_
    rintro e w3 ⟨rfl, hb⟩
    have HB3 := hid (bthen HB2.out hb (Nat.le_refl _))
    clear hb H2
    go_wp2
    go_ret
    exact ⟨ei_int (e2_r _).symm, HB3.out⟩
  · have hq : (qd != 0) = true := by rw [bne_iff_ne]; exact q0
    have HQ := hid (e2_l (b := qc) q0)
    clear q0
    go_wp2
    go_ret
    exact ⟨ei_int HQ.out.symm, HB2.out⟩

set_option maxRecDepth 100000 in
set_option maxHeartbeats 8000000 in
theorem pairError_is {w : World} (d : Dkd) (x : Cad) {qd qc : Int} (hd : Hid (Dkq 1 (fun _ => d) qd)) (hc : Hid (Caq 1 (fun _ => x) qc)) (hds : d.nm.size ≤ 1000000000) (hxs : x.nm.size ≤ 1000000000) :
    Calls Try.prog 34 #[.agg #[.string d.nm, .int .i64 d.len, .int .i64 d.wid, .int .i64 d.sill, .int .i64 d.flr, .int .i64 d.gap], .agg #[.string x.nm, .int .i64 x.len, .int .i64 x.beam, .int .i64 x.dra, .int .i64 x.und, .int .i64 x.arr, .int .i64 x.wrk, .int .i64 x.due, .int .i64 x.late]] w fun e w' => e = .returned (.int .i64 (e2 qd qc)) ∧ Below w.heap.size w w' := by
  obtain ⟨g, hg⟩ : ∃ g, w.heap.size = g := ⟨_, rfl⟩
  have hb0 := ((Below.refl w.heap.size w).alloc (Nat.le_refl _) (.cells #[.string d.nm, .int .i64 d.len, .int .i64 d.wid, .int .i64 d.sill, .int .i64 d.flr, .int .i64 d.gap] 34)).alloc (by simp) (.cells #[.string x.nm, .int .i64 x.len, .int .i64 x.beam, .int .i64 x.dra, .int .i64 x.und, .int .i64 x.arr, .int .i64 x.wrk, .int .i64 x.due, .int .i64 x.late] 36)
  have K := (Dkb.new w d hg).below (alo (o := (.cells #[.string x.nm, .int .i64 x.len, .int .i64 x.beam, .int .i64 x.dra, .int .i64 x.und, .int .i64 x.arr, .int .i64 x.wrk, .int .i64 x.due, .int .i64 x.late] 36)))
  have J := Cab.new (w.alloc (.cells #[.string d.nm, .int .i64 d.len, .int .i64 d.wid, .int .i64 d.sill, .int .i64 d.flr, .int .i64 d.gap] 34)) x (g := g + 1) (by simp [hg])
  go_enter Try.func34, Try.ntmps34
  obtain ⟨u0, u1, u2, u3, u4, u5⟩ := K.cells
  obtain ⟨v0, v1, v2, v3, v4, v5, v6, v7, v8⟩ := J.cells
  go_wp2_with fail
  have hg2 : ((w.alloc (.cells #[.string d.nm, .int .i64 d.len, .int .i64 d.wid, .int .i64 d.sill, .int .i64 d.flr, .int .i64 d.gap] 34)).alloc (.cells #[.string x.nm, .int .i64 x.len, .int .i64 x.beam, .int .i64 x.dra, .int .i64 x.und, .int .i64 x.arr, .int .i64 x.wrk, .int .i64 x.due, .int .i64 x.late] 36)).heap.size = g + 2 := by simp [hg]
  generalize (w.alloc (.cells #[.string d.nm, .int .i64 d.len, .int .i64 d.wid, .int .i64 d.sill, .int .i64 d.flr, .int .i64 d.gap] 34)).alloc (.cells #[.string x.nm, .int .i64 x.len, .int .i64 x.beam, .int .i64 x.dra, .int .i64 x.und, .int .i64 x.arr, .int .i64 x.wrk, .int .i64 x.due, .int .i64 x.late] 36) = W0 at *
  have HB0 := hid hb0
  have Hg := hid hg
  clear hb0 hg u0 u1 u2 u3 u4 u5 v0 v1 v2 v3 v4 v5 v6 v7 v8 K J
  have hb1 := alo (W := W0) (o := (.cells #[.string x.nm, .int .i64 x.len, .int .i64 x.beam, .int .i64 x.dra, .int .i64 x.und, .int .i64 x.arr, .int .i64 x.wrk, .int .i64 x.due, .int .i64 x.late] 36))
  have K1 := Cab.new W0 x hg2
  have O := Cal.one x K1 (Nat.lt_succ_self _) (by simp [hg2])
  have HB1 := hid (bthen HB0.out hb1 (Nat.le_refl _))
  generalize hW1 : W0.alloc (.cells #[.string x.nm, .int .i64 x.len, .int .i64 x.beam, .int .i64 x.dra, .int .i64 x.und, .int .i64 x.arr, .int .i64 x.wrk, .int .i64 x.due, .int .i64 x.late] 36) = W1 at *
  clear hb1 hW1 K1 hg2
  refine (dockError_is d hd hc O (by decide) (fun _ _ => hxs) hds).mono ?_
  rintro e w2 ⟨rfl, hb⟩
  have HB2 := hid (bthen HB1.out hb (Nat.le_refl _))
  clear hb O
  go_wp2
  go_ret
  exact ⟨rfl, HB2.out⟩
/-- Whether a ship is small enough for a dock. -/
def fitB (d : Dkd) (x : Cad) : Bool := decide (x.len + 2 * d.gap ≤ d.len) && decide (x.beam + 2 * d.gap ≤ d.wid)
theorem dockE_bd {d : Dkd} (h : dockE d = 0) : 1 ≤ d.len ∧ d.len ≤ 1000000 ∧ (1 ≤ d.wid ∧ d.wid ≤ 1000000) ∧ 0 ≤ d.gap ∧ d.gap ≤ 1000000 := by
  unfold dockE at h
  by_cases h1 : dkB d = true
  · obtain ⟨a, b, _, _, e⟩ := dkB_iff.1 h1
    exact ⟨(inB_iff.1 a).1, (inB_iff.1 a).2, inB_iff.1 b, (inB_iff.1 e).1, (inB_iff.1 e).2⟩
  · rw [if_neg h1] at h; exact absurd h (by decide)
theorem callE_bd {x : Cad} (h : callE x = 0) : 1 ≤ x.len ∧ x.len ≤ 1000000 ∧ 1 ≤ x.beam ∧ x.beam ≤ 1000000 := by
  unfold callE at h
  by_cases h1 : caB x = true
  · obtain ⟨a, b, _⟩ := caB_iff.1 h1
    exact ⟨(inB_iff.1 a).1, (inB_iff.1 a).2, (inB_iff.1 b).1, (inB_iff.1 b).2⟩
  · rw [if_neg h1] at h; exact absurd h (by decide)

set_option maxRecDepth 100000 in
set_option maxHeartbeats 8000000 in
theorem fits_any {w : World} (d : Dkd) (x : Cad) (hd : dockE d = 0) (hx : callE x = 0) :
    Calls Try.prog 35 #[.agg #[.string d.nm, .int .i64 d.len, .int .i64 d.wid, .int .i64 d.sill, .int .i64 d.flr, .int .i64 d.gap], .agg #[.string x.nm, .int .i64 x.len, .int .i64 x.beam, .int .i64 x.dra, .int .i64 x.und, .int .i64 x.arr, .int .i64 x.wrk, .int .i64 x.due, .int .i64 x.late]] w fun e w' => e = .returned (.bool (fitB d x)) ∧ Below w.heap.size w w' := by
  obtain ⟨b1, b2, b3, b4, b5⟩ := dockE_bd hd
  obtain ⟨c1, c2, c3, c4⟩ := callE_bd hx
  have hF : fitB d x = (decide (x.len + 2 * d.gap ≤ d.len) && decide (x.beam + 2 * d.gap ≤ d.wid)) := rfl
  clear hd hx
  by_cases k1 : x.len + 2 * d.gap ≤ d.len <;> by_cases k2 : x.beam + 2 * d.gap ≤ d.wid
  all_goals
    simp only [k1, k2, decide_true, decide_false, Bool.and_self, Bool.and_true, Bool.and_false] at hF
    rw [hF]
    clear hF
    obtain ⟨g, hg⟩ : ∃ g, w.heap.size = g := ⟨_, rfl⟩
    have hb0 := ((Below.refl w.heap.size w).alloc (Nat.le_refl _) (.cells #[.string d.nm, .int .i64 d.len, .int .i64 d.wid, .int .i64 d.sill, .int .i64 d.flr, .int .i64 d.gap] 34)).alloc (by simp) (.cells #[.string x.nm, .int .i64 x.len, .int .i64 x.beam, .int .i64 x.dra, .int .i64 x.und, .int .i64 x.arr, .int .i64 x.wrk, .int .i64 x.due, .int .i64 x.late] 36)
    have K := (Dkb.new w d hg).below (alo (o := (.cells #[.string x.nm, .int .i64 x.len, .int .i64 x.beam, .int .i64 x.dra, .int .i64 x.und, .int .i64 x.arr, .int .i64 x.wrk, .int .i64 x.due, .int .i64 x.late] 36)))
    have J := Cab.new (w.alloc (.cells #[.string d.nm, .int .i64 d.len, .int .i64 d.wid, .int .i64 d.sill, .int .i64 d.flr, .int .i64 d.gap] 34)) x (g := g + 1) (by simp [hg])
    go_enter Try.func35, Try.ntmps35
    obtain ⟨u0, u1, u2, u3, u4, u5⟩ := K.cells
    obtain ⟨v0, v1, v2, v3, v4, v5, v6, v7, v8⟩ := J.cells
    go_wp2
    go_ret
    exact ⟨rfl, by first | exact hb0 | (rw [← hg]; exact hb0)⟩

set_option maxRecDepth 100000 in
set_option maxHeartbeats 8000000 in
theorem rFits_any {w : World} (d : Dkd) (x : Cad) (hd : dockE d = 0) (hx : callE x = 0) :
    Calls Try.prog 13 #[.agg #[.string d.nm, .int .i64 d.len, .int .i64 d.wid, .int .i64 d.sill, .int .i64 d.flr, .int .i64 d.gap], .agg #[.string x.nm, .int .i64 x.len, .int .i64 x.beam, .int .i64 x.dra, .int .i64 x.und, .int .i64 x.arr, .int .i64 x.wrk, .int .i64 x.due, .int .i64 x.late]] w fun e w' => e = .returned (.bool (fitB d x)) ∧ Below w.heap.size w w' := by
  obtain ⟨b1, b2, b3, b4, b5⟩ := dockE_bd hd
  obtain ⟨c1, c2, c3, c4⟩ := callE_bd hx
  have hF : fitB d x = (decide (x.len + 2 * d.gap ≤ d.len) && decide (x.beam + 2 * d.gap ≤ d.wid)) := rfl
  clear hd hx
  by_cases k1 : x.len + 2 * d.gap ≤ d.len <;> by_cases k2 : x.beam + 2 * d.gap ≤ d.wid
  all_goals
    simp only [k1, k2, decide_true, decide_false, Bool.and_self, Bool.and_true, Bool.and_false] at hF
    rw [hF]
    clear hF
    obtain ⟨g, hg⟩ : ∃ g, w.heap.size = g := ⟨_, rfl⟩
    have hb0 := ((Below.refl w.heap.size w).alloc (Nat.le_refl _) (.cells #[.string d.nm, .int .i64 d.len, .int .i64 d.wid, .int .i64 d.sill, .int .i64 d.flr, .int .i64 d.gap] 34)).alloc (by simp) (.cells #[.string x.nm, .int .i64 x.len, .int .i64 x.beam, .int .i64 x.dra, .int .i64 x.und, .int .i64 x.arr, .int .i64 x.wrk, .int .i64 x.due, .int .i64 x.late] 36)
    have K := (Dkb.new w d hg).below (alo (o := (.cells #[.string x.nm, .int .i64 x.len, .int .i64 x.beam, .int .i64 x.dra, .int .i64 x.und, .int .i64 x.arr, .int .i64 x.wrk, .int .i64 x.due, .int .i64 x.late] 36)))
    have J := Cab.new (w.alloc (.cells #[.string d.nm, .int .i64 d.len, .int .i64 d.wid, .int .i64 d.sill, .int .i64 d.flr, .int .i64 d.gap] 34)) x (g := g + 1) (by simp [hg])
    go_enter Try.func13, Try.ntmps13
    obtain ⟨u0, u1, u2, u3, u4, u5⟩ := K.cells
    obtain ⟨v0, v1, v2, v3, v4, v5, v6, v7, v8⟩ := J.cells
    go_wp2
    go_ret
    exact ⟨rfl, by first | exact hb0 | (rw [← hg]; exact hb0)⟩

set_option maxRecDepth 100000 in
set_option maxHeartbeats 8000000 in
theorem Fits_is {w : World} (d : Dkd) (x : Cad) {qd qc : Int} (hd : Hid (Dkq 1 (fun _ => d) qd)) (hc : Hid (Caq 1 (fun _ => x) qc)) (hds : d.nm.size ≤ 1000000000) (hxs : x.nm.size ≤ 1000000000) {q : Int} (hq : Hid (e2 qd qc = q)) :
    Calls Try.prog 11 #[.agg #[.string d.nm, .int .i64 d.len, .int .i64 d.wid, .int .i64 d.sill, .int .i64 d.flr, .int .i64 d.gap], .agg #[.string x.nm, .int .i64 x.len, .int .i64 x.beam, .int .i64 x.dra, .int .i64 x.und, .int .i64 x.arr, .int .i64 x.wrk, .int .i64 x.due, .int .i64 x.late]] w fun e w' => e = .returned (.tuple #[.bool (if q = 0 then fitB d x else false), .int .i64 q]) ∧ Below w.heap.size w w' := by
  obtain ⟨g, hg⟩ : ∃ g, w.heap.size = g := ⟨_, rfl⟩
  have hb0 := ((Below.refl w.heap.size w).alloc (Nat.le_refl _) (.cells #[.string d.nm, .int .i64 d.len, .int .i64 d.wid, .int .i64 d.sill, .int .i64 d.flr, .int .i64 d.gap] 34)).alloc (by simp) (.cells #[.string x.nm, .int .i64 x.len, .int .i64 x.beam, .int .i64 x.dra, .int .i64 x.und, .int .i64 x.arr, .int .i64 x.wrk, .int .i64 x.due, .int .i64 x.late] 36)
  have K := (Dkb.new w d hg).below (alo (o := (.cells #[.string x.nm, .int .i64 x.len, .int .i64 x.beam, .int .i64 x.dra, .int .i64 x.und, .int .i64 x.arr, .int .i64 x.wrk, .int .i64 x.due, .int .i64 x.late] 36)))
  have J := Cab.new (w.alloc (.cells #[.string d.nm, .int .i64 d.len, .int .i64 d.wid, .int .i64 d.sill, .int .i64 d.flr, .int .i64 d.gap] 34)) x (g := g + 1) (by simp [hg])
  go_enter Try.func11, Try.ntmps11
  obtain ⟨u0, u1, u2, u3, u4, u5⟩ := K.cells
  obtain ⟨v0, v1, v2, v3, v4, v5, v6, v7, v8⟩ := J.cells
  go_wp2_with fail
  generalize (w.alloc (.cells #[.string d.nm, .int .i64 d.len, .int .i64 d.wid, .int .i64 d.sill, .int .i64 d.flr, .int .i64 d.gap] 34)).alloc (.cells #[.string x.nm, .int .i64 x.len, .int .i64 x.beam, .int .i64 x.dra, .int .i64 x.und, .int .i64 x.arr, .int .i64 x.wrk, .int .i64 x.due, .int .i64 x.late] 36) = W0 at *
  have HB0 := hid hb0
  have Hg := hid hg
  clear hb0 hg u0 u1 u2 u3 u4 u5 v0 v1 v2 v3 v4 v5 v6 v7 v8
  refine (pairError_is d x hd hc hds hxs).mono ?_
  rintro e w2 ⟨rfl, hb⟩
  have K2 := K.below hb
  have J2 := J.below hb
  have HB2 := hid (bthen HB0.out hb (Nat.le_refl _))
  clear hb K J
  obtain ⟨u0, u1, u2, u3, u4, u5⟩ := K2.cells
  obtain ⟨v0, v1, v2, v3, v4, v5, v6, v7, v8⟩ := J2.cells
  rw [hq.out]
  by_cases q0 : q = 0
  · subst q0
    obtain ⟨z1, z2⟩ := e2_0 hq.out
    have hd0 := Dkq.one0 (x := d) (by rw [← z1]; exact hd.out)
    have hx0 := Caq.one0 (x := x) (by rw [← z2]; exact hc.out)
    clear z1 z2 hq
    go_wp2_with fail
    refine (fits_any d x hd0 hx0).mono ?_
    rintro e w3 ⟨rfl, hb⟩
    have HB3 := hid (bthen HB2.out hb (Nat.le_refl _))
    clear hb u0 u1 u2 u3 u4 u5 v0 v1 v2 v3 v4 v5 v6 v7 v8 K2 J2 hd0 hx0
    go_wp2
    go_ret2
    exact ⟨rfl, HB3.out⟩
  · have hq1 : (q != 0) = true := by rw [bne_iff_ne]; exact q0
    clear u0 u1 u2 u3 u4 u5 v0 v1 v2 v3 v4 v5 v6 v7 v8
    go_wp2
    go_ret2
    exact ⟨rfl, HB2.out⟩

end Go.Proofs.Ytkenanicohoigaa
