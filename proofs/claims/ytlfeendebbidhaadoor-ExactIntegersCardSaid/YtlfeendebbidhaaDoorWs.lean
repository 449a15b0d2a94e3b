/- The contract of Ws at the slopes of the statements' example. -/
import Derived.Test.YtlfeendebbidhaaDoorFresh
import Derived.Test.YtlfeendebbidhaaDoorAlong
import Derived.Maps.AppendAt
import Derived.Deep.AppendLies
namespace Go.Proofs.YtlfeendebbidhaaDoor
open Go.RowKit Kb

theorem Tryd.infoRat : (Tryd.prog.info? 42).map (fun i => (i.zero, i.size, i.bytes)) = some (some (.agg #[.bool false, .slice none 0 0, .bool false, .slice none 0 0]), 4, 64) := by kernel_rfl
theorem Nm.grown {w w' : World} {A : Option Addr} {n c a : Nat} {r : Option Nat} (h : Nm w (.slice A n c) a) (hb : w.grownBy w' r) (hne : ∀ ad, A = some ad → a ≠ 0 → some ad.block ≠ r) : Nm w' (.slice A n c) a := by
  obtain ⟨A', c', e, h1, h2, h3⟩ := h
  injection e with e1 e2 e3
  subst e1; subst e2; subst e3
  exact ⟨A, c, rfl, h1.grown hb (fun ad ha hd => hne ad ha (fun h0 => hd (by rw [h0, dig_zero]))), h2, h3⟩
theorem Nm.lt {w : World} {ad : Addr} {n c a : Nat} (h : Nm w (.slice (some ad) n c) a) (ha : a ≠ 0) : ad.block < w.heap.size := by
  obtain ⟨A', c', e, h1, h2, h3⟩ := h
  injection e with e1 e2 e3
  subst e1
  have hl : 0 < (dig a).length := by
    rcases Nat.eq_zero_or_pos (dig a).length with h0 | h0
    · exact absurd (dig_nil_iff.1 (List.eq_nil_of_length_eq_zero h0)) ha
    · exact h0
  obtain ⟨ad', e', hb, _⟩ := h1 0 hl
  injection e' with e'
  subst e'
  exact hb

/-- The slopes of the example in block sb. -/
structure Slp (w : World) (sb : Nat) (A1 : Option Addr) (n1 c1 : Nat) (B1 : Option Addr) (m1 d1 : Nat) (A2 : Option Addr) (n2 c2 : Nat) (B2 : Option Addr) (m2 d2 : Nat) : Prop where
  cells : ∀ j u, [Value.bool false, .slice A1 n1 c1, .bool false, .slice B1 m1 d1, .bool false, .slice A2 n2 c2, .bool false, .slice B2 m2 d2][j]? = some u → w.cell? ((⟨sb, 0, none⟩ : Addr).add j) = some u
  ls : sb < w.heap.size
  na1 : Nm w (.slice A1 n1 c1) 2
  nb1 : Nm w (.slice B1 m1 d1) 1
  na2 : Nm w (.slice A2 n2 c2) 0
  nb2 : Nm w (.slice B2 m2 d2) 1

/-- What the loop of Ws holds. -/
def WsRel (w : World) (vv iv : Value) (wr : World) : Prop :=
  (iv = .int .i64 0 ∧ vv = .slice none 0 0 ∧ wr = w) ∨
  (iv = .int .i64 1 ∧ ∃ g cap A1 n1 c1 B1 m1 d1, vv = .slice (some ⟨g, 0, none⟩) 1 cap ∧ wr.ownsRow w.heap.size 42 4 (.slice (some ⟨g, 0, none⟩) 1 cap) 1 [.bool false, .slice A1 n1 c1, .bool false, .slice B1 m1 d1] ∧
    Nm wr (.slice A1 n1 c1) 2 ∧ Nm wr (.slice B1 m1 d1) 1 ∧ (∀ ad, A1 = some ad → ad.block ≠ g) ∧ (∀ ad, B1 = some ad → ad.block ≠ g) ∧ Below w.heap.size w wr) ∨
  (iv = .int .i64 2 ∧ ∃ g cap A1 n1 c1 B1 m1 d1 A2 n2 c2 B2 m2 d2, vv = .slice (some ⟨g, 0, none⟩) 2 cap ∧ Slp wr g A1 n1 c1 B1 m1 d1 A2 n2 c2 B2 m2 d2 ∧ Below w.heap.size w wr)
theorem four_one (a b : Bool) (A B : Option Addr) (n c m d : Nat) : ∀ u ∈ [Value.bool a, .slice A n c, .bool b, .slice B m d], u.oneCell' = true := fun u hu => by
  simp only [List.mem_cons, List.mem_nil_iff, or_false] at hu
  rcases hu with rfl | rfl | rfl | rfl <;> rfl

set_option maxRecDepth 100000 in
set_option maxHeartbeats 4000000 in
theorem Ws_ex (lb lc : Nat) (w : World) (hc0 : w.cell? ⟨lb, 0, none⟩ = some (.int .i64 2)) (hc1 : w.cell? ⟨lb, 1, none⟩ = some (.int .i64 0)) (hlb : lb < w.heap.size) :
    Calls Tryd.prog 36 #[.slice (some ⟨lb, 0, none⟩) 2 lc] w fun e w' => ∃ sb sc A1 n1 c1 B1 m1 d1 A2 n2 c2 B2 m2 d2, e = .returned (.slice (some ⟨sb, 0, none⟩) 2 sc) ∧ Slp w' sb A1 n1 c1 B1 m1 d1 A2 n2 c2 B2 m2 d2 ∧ Below w.heap.size w w' := by
  obtain ⟨i0, hi, hz0, hz1, hz2⟩ := info_parts Tryd.infoRat
  go_enter Tryd.func36, Tryd.ntmps36
  go_wp2
  go_loopw [3, 4] (fun vv iv wr => WsRel w vv iv wr) (fun _ iv _ => 2 - (intOf iv).toNat)
  case atStart => exact .inl ⟨rfl, rfl, rfl⟩
  case round =>
    rcases hrel with ⟨rfl, rfl, rfl⟩ | ⟨rfl, g, cap, A1, n1, c1, B1, m1, d1, rfl, hown, hn1, hn2, ho1, ho2, hbel⟩ | ⟨rfl, g, cap, A1, n1, c1, B1, m1, d1, A2, n2, c2, B2, m2, d2, rfl, hs, hbel⟩
    · go_wp2_with fail
      refine (W_new 2 _ (by decide)).mono ?_
      rintro e w1 ⟨A1, n1, c1, B1, m1, d1, rfl, hn1, hn2, -, -, hb1⟩
      have hnews := World.news_of_block (heap_alloc_new w1 (.cells #[.bool false, .slice A1 n1 c1, .bool false, .slice B1 m1 d1] 42))
      have hq := (Below.refl w1.heap.size w1).alloc (Nat.le_refl _) (.cells #[.bool false, .slice A1 n1 c1, .bool false, .slice B1 m1 d1] 42)
      have hB1 := bthen hb1 hq (Nat.le_refl _)
      have hsz := hb1.size
      go_wp2_with (at_builtin; (refine wpList_append_own_at _ rfl (.tmp 11) (.tmp 17) 55 rfl wr.heap.size 42 i0 (.agg #[.bool false, .slice none 0 0, .bool false, .slice none 0 0]) 4 64 Tryd.underlying55 hi hz0 hz1 hz2 rfl (by decide) (.slice none 0 0) 0 [] rfl (World.ownsRow_nil _ _ _ _) ⟨w1.heap.size, 0, none⟩ 1 1 [.bool false, .slice A1 n1 c1, .bool false, .slice B1 m1 d1] rfl rfl hnews (four_one _ _ _ _ _ _ _ _) (by unfold maxLen; omega) (by omega) (by simp; omega) ?_))
      intro v' w2 hown' hgrow hnil hat
      obtain ⟨g, cap, rfl, hgb, hcap1⟩ := hown'.form (by decide)
      have hgz : g = w1.heap.size + 1 := by
        rcases hat with h | h
        · simp [Value.ownBlock] at h
        · simp [Value.ownBlock] at h; exact h
      have hlq : (w1.alloc (.cells #[.bool false, .slice A1 n1 c1, .bool false, .slice B1 m1 d1] 42)).heap.size = w1.heap.size + 1 := by simp
      have k1 := hid ((hn1.below hq).grown hgrow (fun _ _ _ h => by simp [Value.ownBlock] at h))
      have k2 := hid ((hn2.below hq).grown hgrow (fun _ _ _ h => by simp [Value.ownBlock] at h))
      have o1 := hid (show ∀ ad, A1 = some ad → ad.block ≠ g from fun ad e => by subst e; have := hn1.lt (by decide); omega)
      have o2 := hid (show ∀ ad, B1 = some ad → ad.block ≠ g from fun ad e => by subst e; have := hn2.lt (by decide); omega)
      have hB2 := hid (hB1.grown hgrow (by omega) (fun k hk => by simp [Value.ownBlock] at hk))
      have Ho := hid hown'
      clear hown' hgrow hnil hat hn1 hn2 hq hnews hB1 hb1 hgb hcap1 hgz hlq hsz
      go_wp2
      go_roundw
      case rel => exact .inr (.inl ⟨rfl, g, cap, A1, n1, c1, B1, m1, d1, rfl, Ho.out, k1.out, k2.out, o1.out, o2.out, hB2.out⟩)
      case measure => simp [intOf]
    · have hbl := hbel.size
      have hl0 := hbel.cell (p := ⟨lb, 1, none⟩) hlb
      rw [hc1] at hl0
      have Hown := hid hown
      have Hbel := hid hbel
      clear hown hbel hc0 hc1
      go_wp2_with fail
      refine (W_new 0 _ (by decide)).mono ?_
      rintro e w1 ⟨A2, n2, c2, B2, m2, d2, rfl, hn3, hn4, hf3, hf4, hb1⟩
      have hnews := World.news_of_block (heap_alloc_new w1 (.cells #[.bool false, .slice A2 n2 c2, .bool false, .slice B2 m2 d2] 42))
      have hq := (Below.refl w1.heap.size w1).alloc (Nat.le_refl _) (.cells #[.bool false, .slice A2 n2 c2, .bool false, .slice B2 m2 d2] 42)
      have hB1 := bthen Hbel.out (bthen hb1 hq (Nat.le_refl _)) (Nat.le_refl _)
      have hsz := hb1.size
      have hlg := (Hown.out.lt g rfl)
      have hown := (Hown.out.kept (gb_of_below (r := none) hb1) (.inr (by simp [Value.ownBlock]))).alloc (.cells #[.bool false, .slice A2 n2 c2, .bool false, .slice B2 m2 d2] 42)
      go_wp2_with (at_builtin; (refine wpList_append_own_at _ rfl (.tmp 11) (.tmp 17) 55 rfl w.heap.size 42 i0 (.agg #[.bool false, .slice none 0 0, .bool false, .slice none 0 0]) 4 64 Tryd.underlying55 hi hz0 hz1 hz2 rfl (by decide) (.slice (some ⟨g, 0, none⟩) 1 cap) 1 [.bool false, .slice A1 n1 c1, .bool false, .slice B1 m1 d1] rfl hown ⟨w1.heap.size, 0, none⟩ 1 1 [.bool false, .slice A2 n2 c2, .bool false, .slice B2 m2 d2] rfl rfl hnews (four_one _ _ _ _ _ _ _ _) (by unfold maxLen; omega) (by omega) (by simp; omega) ?_))
      intro v' w2 hown' hgrow hnil hat
      obtain ⟨g', cap', rfl, hgb, hcap1⟩ := hown'.form (by decide)
      have hlq : (w1.alloc (.cells #[.bool false, .slice A2 n2 c2, .bool false, .slice B2 m2 d2] 42)).heap.size = w1.heap.size + 1 := by simp
      have k1 := ((hn1.below hb1).below hq).grown hgrow (fun ad e _ h => ho1 ad e (by simpa [Value.ownBlock] using h))
      have k2 := ((hn2.below hb1).below hq).grown hgrow (fun ad e _ h => ho2 ad e (by simpa [Value.ownBlock] using h))
      have k3 := (hn3.below hq).grown hgrow (fun ad e h0 => absurd rfl h0)
      have k4 := (hn4.below hq).grown hgrow (fun ad e _ h => by
        subst e
        have := hf4 ad m2 d2 rfl
        have h' : ad.block = g := by simpa [Value.ownBlock] using h
        omega)
      have hB2 := hid (hB1.grown hgrow (by omega) (fun k hk => by
        have h' : g = k := by simpa [Value.ownBlock] using hk
        omega))
      have hs2 := hid (show Slp w2 g' A1 n1 c1 B1 m1 d1 A2 n2 c2 B2 m2 d2 from ⟨hown'.cells (g := g') rfl, (hown'.lt g' rfl).2, k1, k2, k3, k4⟩)
      clear hown' hgrow hnil hat hn1 hn2 hn3 hn4 hf3 hf4 hq hnews hB1 hb1 hgb hcap1 hlq hsz hlg hown k1 k2 k3 k4 ho1 ho2 hbl hl0
      go_wp2
      go_roundw
      case rel => exact .inr (.inr ⟨rfl, g', cap', A1, n1, c1, B1, m1, d1, A2, n2, c2, B2, m2, d2, rfl, hs2.out, hB2.out⟩)
      case measure => simp [intOf]
    · go_wp2
      go_ret
      exact ⟨g, cap, A1, n1, c1, B1, m1, d1, A2, n2, c2, B2, m2, d2, rfl, hs, hbel⟩

end Go.Proofs.YtlfeendebbidhaaDoor
