/- What awake() runs: the basin of the first example, its volume and its level. -/
import Derived.Test.YtndcopljjnbkbaaWbt
namespace Go.Proofs.Ytndcopljjnbkbaa
open Go.RowKit Kb Wb

def tubF (i : Nat) : Int := if i = 0 then 0 else 1000
def tubS (i : Nat) : Int := if i = 0 then 100 else 200
theorem tub_up : ∀ i, i + 1 < 2 → tubF i < tubF (i + 1) := fun i h => by
  have : i = 0 := by omega
  subst this
  decide
theorem tub_bas : Bas tubF tubS 2 3000 := ⟨by decide, by decide, by decide, by decide, tub_up, by decide, by decide⟩
theorem tub_name : nameB ⟨#[65]⟩ = true := nameB_t ⟨by decide, by decide, fun i b h => by
  match i with
  | 0 => injection h with h; subst h; exact .inl (letB_t (by decide))
  | i + 1 => cases h⟩
theorem tub_cb {q : Int} (h : Cb (nameB ⟨#[65]⟩) 2 tubF tubS 3000 q) : q = 0 := by
  rcases h with ⟨h, _⟩ | ⟨_, h⟩
  · rw [tub_name] at h; cases h
  · exact h.of_bas tub_bas
theorem tub_vo {r x : Int} (h : Vo (nameB ⟨#[65]⟩) 2 tubF tubS 3000 1500 r x) : r = 200000 ∧ x = 0 := by
  obtain ⟨q, hq, h⟩ := h
  have := tub_cb hq
  rcases h with ⟨h0, _⟩ | ⟨_, ⟨h1, _⟩ | ⟨_, h2, h3⟩⟩
  · exact absurd this h0
  · exact absurd (by decide) h1
  · exact ⟨by rw [h2]; decide, h3⟩
theorem tub_lo {r x : Int} (h : Lo (nameB ⟨#[65]⟩) 2 tubF tubS 3000 100199 r x) : r = 1000 ∧ x = 0 := by
  obtain ⟨q, hq, h⟩ := h
  have := tub_cb hq
  rcases h with ⟨h0, _⟩ | ⟨_, ⟨h1, _⟩ | ⟨_, h2, h3⟩⟩
  · exact absurd this h0
  · exact absurd (by decide) h1
  · exact ⟨h2.same tub_bas ⟨by decide, by decide, by decide, by decide⟩, h3⟩

set_option maxRecDepth 100000 in
set_option maxHeartbeats 8000000 in
theorem tub_any (w : World) :
    Calls Try.prog 37 #[] w fun e w' => ∃ A, e = .returned (.agg #[.string ⟨#[65]⟩, .slice A 2 2, .int .i64 3000]) ∧ Pa w' w'.heap.size A 2 tubF tubS ∧ Below w.heap.size w w' := by
  have hb := ((Below.refl w.heap.size w).alloc (Nat.le_refl _) (.cells #[.string ⟨#[65]⟩, .slice (some ⟨w.heap.size + 1, 0, none⟩) 2 2, .int .i64 3000] 42)).alloc (by simp) (.cells #[.int .i64 0, .int .i64 100, .int .i64 1000, .int .i64 200] 113)
  have j1 := (Bk.of_alloc w (.cells #[.string ⟨#[65]⟩, .slice (some ⟨w.heap.size + 1, 0, none⟩) 2 2, .int .i64 3000] 42) rfl).alloc (.cells #[.int .i64 0, .int .i64 100, .int .i64 1000, .int .i64 200] 113)
  have j2 : Bk _ (w.heap.size + 1) _ := Bk.of_alloc (w.alloc (.cells #[.string ⟨#[65]⟩, .slice (some ⟨w.heap.size + 1, 0, none⟩) 2 2, .int .i64 3000] 42)) (.cells #[.int .i64 0, .int .i64 100, .int .i64 1000, .int .i64 200] 113) (by simp)
  obtain ⟨g, hg⟩ : ∃ g, w.heap.size = g := ⟨_, rfl⟩
  have hb' : Below w.heap.size w ((w.alloc (.cells #[.string ⟨#[65]⟩, .slice (some ⟨g + 1, 0, none⟩) 2 2, .int .i64 3000] 42)).alloc (.cells #[.int .i64 0, .int .i64 100, .int .i64 1000, .int .i64 200] 113)) := by rw [← hg]; exact hb
  clear hb
  rw [hg] at j1 j2
  go_enter Try.func37, Try.ntmps37
  go_wp2_with fail
  generalize (w.alloc (.cells #[.string ⟨#[65]⟩, .slice (some ⟨g + 1, 0, none⟩) 2 2, .int .i64 3000] 42)).alloc (.cells #[.int .i64 0, .int .i64 100, .int .i64 1000, .int .i64 200] 113) = W at *
  obtain ⟨x0, x1, x2⟩ := j1.c3
  have hP : Pa W W.heap.size (some ⟨g + 1, 0, none⟩) 2 tubF tubS := ⟨fun i hi => by
    have hh := fun k => cell_of_row W (g + 1) k _ 113 (0, 0) j2
    match i, hi with
    | 0, _ => exact ⟨_, rfl, j2.lt, (hh 0).trans rfl, (hh 1).trans rfl, ⟨by decide, by decide⟩, ⟨by decide, by decide⟩⟩
    | 1, _ => exact ⟨_, rfl, j2.lt, (hh 2).trans rfl, (hh 3).trans rfl, ⟨by decide, by decide⟩, ⟨by decide, by decide⟩⟩, Nat.le_refl _⟩
  exact bodyPost_ret (v := .agg #[.string ⟨#[65]⟩, .slice (some ⟨g + 1, 0, none⟩) 2 2, .int .i64 3000]) (by simp [results, Try.results37, go_sem, x0, x1, x2]) rfl ⟨_, rfl, hP, hb'⟩

set_option maxRecDepth 100000 in
set_option maxHeartbeats 8000000 in
theorem awake_any (w : World) :
    Calls Try.prog 8 #[] w fun e w' => e = .returned (.bool true) ∧ Below w.heap.size w w' := by
  go_enter Try.func8, Try.ntmps8
  go_wp2_with fail
  refine (tub_any _).mono ?_
  rintro e w1 ⟨A1, rfl, hP1, hb1⟩
  go_wp2_with fail
  refine (Volume_any (s := ⟨#[65]⟩) 1500 hP1 (by decide) (by decide)).mono ?_
  rintro e w2 ⟨r, x, rfl, hE, hb2⟩
  obtain ⟨rfl, rfl⟩ := tub_vo hE.out
  have HB2 := hid (bthen hb1 hb2 (Nat.le_refl _))
  clear hE hb1 hb2 hP1
  go_wp2_with fail
  refine (tub_any _).mono ?_
  rintro e w3 ⟨A3, rfl, hP3, hb3⟩
  have HB3 := hid (bthen HB2.out hb3 (Nat.le_refl _))
  clear hb3
  go_wp2_with fail
  refine (Level_any (s := ⟨#[65]⟩) 100199 hP3 (Nat.le_refl _) (by decide) (by decide)).mono ?_
  rintro e w4 ⟨r, x, rfl, hE, hb4⟩
  obtain ⟨rfl, rfl⟩ := tub_lo hE.out
  have HB4 := hid (bthen HB3.out hb4 (Nat.le_refl _))
  clear hE hb4 hP3
  go_wp2
  go_ret
  exact ⟨rfl, HB4.out⟩

end Go.Proofs.Ytndcopljjnbkbaa
