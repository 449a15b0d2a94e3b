/- Parse: the integer that a text is, or the error. For all texts of at most nine hundred bytes. -/
import Derived.Test.YtgdclneolgmggaaGreatDoorRpa
namespace Go.Proofs.YtgdclneolgmggaaGreatDoor
open Go.RowKit Kb Go.Lib

/-- What readInteger tells. -/
def Rdo (w : World) (l : List UInt8) (e : Ending) (w' : World) : Prop := ∃ p A n c z r, e = .returned (.tuple #[.agg #[.bool p, .slice A n c], .int .i64 r]) ∧ ((Good l ∧ r = 0 ∧ z = rz l) ∨ (¬ Good l ∧ r = 7 ∧ z = 0)) ∧ Zn w' p A n c z ∧ Below w.heap.size w w'

theorem rdi_any (s : ByteArray) (w : World) (hs : s.size ≤ 100000) :
    Calls Tryz.prog 45 #[.string s] w fun e w' => Rdo w (bl s) e w' := by
  by_cases h : Good (bl s)
  · refine (rdi_good s w hs h).mono ?_
    rintro e w' ⟨p, A, n, c, rfl, h1, h2, h3⟩
    exact ⟨p, A, n, c, _, 0, rfl, .inl ⟨h, rfl, rfl⟩, ⟨h1, h2⟩, h3⟩
  · refine (rdi_bad s w hs h).mono ?_
    rintro e w' ⟨rfl, h3⟩
    exact ⟨false, none, 0, 0, 0, 7, rfl, .inr ⟨h, rfl, rfl⟩, zn_zero _, h3⟩

set_option maxRecDepth 100000 in
set_option maxHeartbeats 2000000 in
theorem Parse_any (s : ByteArray) (w : World) (hs : s.size ≤ 900) :
    Calls Tryz.prog 9 #[.string s] w fun e w' => Pst w (bl s) e w' := by
  have b0 := heap_alloc_new w (.cells #[.bool false, .slice none 0 0] 24)
  have hB := (Below.refl w.heap.size w).alloc (Nat.le_refl _) (.cells #[.bool false, .slice none 0 0] 24)
  obtain ⟨g, hg0⟩ : ∃ g, w.heap.size = g := ⟨_, rfl⟩
  by_cases hbig : 400 < s.size
  · have hfin := hid hB
    rw [hg0] at b0
    obtain ⟨x0, x1, x2, x3⟩ := cells2 b0
    have hgl : g < (w.alloc (.cells #[.bool false, .slice none 0 0] 24)).heap.size := (Array.getElem?_eq_some_iff.1 b0).1
    have B0 := hid b0
    clear b0 hB
    go_enter Tryz.func9, Tryz.ntmps9
    go_wp2
    exact bodyPost_ret (v := .tuple #[.agg #[.bool false, .slice none 0 0], .int .i64 8]) (by simp [results, Tryz.results9, go_sem, x0, x1]) rfl ⟨false, none, 0, 0, 0, 8, rfl, .inl ⟨by rw [bl_len]; exact hbig, rfl, rfl⟩, zn_zero _, hfin.out⟩
  · go_enter Tryz.func9, Tryz.ntmps9
    have hcall := rdi_any s (w.alloc (.cells #[.bool false, .slice none 0 0] 24)) (by omega)
    have HB := hid hB
    have hgl : g < (w.alloc (.cells #[.bool false, .slice none 0 0] 24)).heap.size := by simp; omega
    rw [hg0] at b0
    have B0 := hid b0
    have Hg0 := hid hg0
    clear b0 hB
    go_wp2_with (go_at_call 45; refine hcall.mono ?_; rintro e w2 ⟨p3, A3, n3, c3, z, r, rfl, hr, hz3, hb3⟩; have b3 := (hb3.block g hgl).trans B0.out; have hl3 : g < w2.heap.size := (Array.getElem?_eq_some_iff.1 b3).1; obtain ⟨t0, t1, t2, t3⟩ := cells2 b3; have B3 := hid b3; have HR := hid hr; clear b3 hr)
    have h4 := ((bthen HB.out hb3 (Nat.le_refl _)).setCell (p := ⟨g, 0, none⟩) (by show w.heap.size ≤ g; have := Hg0.out; omega) (.bool p3)).setCell (p := ⟨g, 1, none⟩) (by show w.heap.size ≤ g; have := Hg0.out; omega) (.slice A3 n3 c3)
    have m3 := hz3.offbox B3.out (noInt_zero _ _ _ _) (gb2 _ g 0 1 (.bool p3) (.slice A3 n3 c3))
    refine bodyPost_ret (v := .tuple #[.agg #[.bool p3, .slice A3 n3 c3], .int .i64 r]) (by simp [results, Tryz.results9, go_sem, t0, t1]) rfl ⟨p3, A3, n3, c3, z, r, rfl, ?_, m3, h4⟩
    have hle : (bl s).length ≤ 400 := by rw [bl_len]; omega
    rcases HR.out with ⟨h1, h2, h3⟩ | ⟨h1, h2, h3⟩
    · exact .inr (.inl ⟨hle, h1, h2, h3⟩)
    · exact .inr (.inr ⟨hle, h1, h2, h3⟩)

end Go.Proofs.YtgdclneolgmggaaGreatDoor
