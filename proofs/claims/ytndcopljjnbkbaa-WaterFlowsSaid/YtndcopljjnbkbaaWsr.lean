/- The level of the sea at a minute by the reference: At. For all marks that are right. -/
import Derived.Test.YtndcopljjnbkbaaWst
namespace Go.Proofs.Ytndcopljjnbkbaa
open Go.RowKit Kb Wb

theorem two_news (w : World) (o1 o2 : Obj) : Bk ((w.alloc o1).alloc o2).drew w.heap.size o1 ∧ Bk ((w.alloc o1).alloc o2).drew (w.heap.size + 1) o2 ∧ Below w.heap.size w ((w.alloc o1).alloc o2).drew :=
  ⟨(Bk.of_alloc w o1 rfl).alloc o2, Bk.of_alloc (w.alloc o1) o2 (by simp), (((Below.refl _ _).alloc (Nat.le_refl _) o1).alloc (by simp) o2).drew⟩

set_option maxRecDepth 100000 in
set_option maxHeartbeats 8000000 in
theorem rAt_any {w : World} {B0 n c : Nat} {A : Option Addr} {F L : Nat → Int} {t : Int} (h : Pa w B0 A n F L) (hS : Sea n F L) (hn : 0 < n) (t1 : 0 ≤ t) (t2 : t ≤ 1000000) :
    Calls Try.prog 69 #[.slice A n c, .int .i64 t] w fun e w' => ∃ r : Int, e = .returned (.int .i64 r) ∧ Hid (Td n F L t r) ∧ Below w.heap.size w w' := by
  have hnm := hS.most
  obtain ⟨ad, hA, hl, q0, q1, qf, qs⟩ := h.at_ 0 hn
  subst hA
  rw [Nat.zero_mul, addr_zero] at q0 q1
  by_cases h0 : t ≤ F 0
  · have HE := hid (show Td n F L t (L 0) from .inl ⟨h0, rfl⟩)
    go_enter Try.func69, Try.ntmps69
    go_wp2
    go_ret
    exact ⟨_, rfl, HE, Below.refl _ _⟩
  · have hd : decide (t ≤ F 0) = false := decide_eq_false h0
    go_enter Try.func69, Try.ntmps69
    go_wp2_with fail
    clear hd q0 q1
    go_loop [5, 6, 7] (fun iv _ _ => ∃ i : Nat, 1 ≤ i ∧ i ≤ n ∧ iv = .int .i64 i ∧ Hid (F (i - 1) < t)) (fun iv _ _ => n - (intOf iv).toNat)
    case atStart => exact ⟨1, Nat.le_refl _, hn, rfl, hid (by show F 0 < t; omega)⟩
    case round =>
      obtain ⟨i, hi1, hi, rfl, HF⟩ := hrel
      by_cases hlt : i < n
      · obtain ⟨ad', hA', hl', r0, r1, rf, rs⟩ := h.at_ i hlt
        injection hA' with hA'
        subst hA'
        by_cases hc : t ≤ F i
        · obtain ⟨ad', hA', hl', s0, s1, sf, ss⟩ := h.at_ (i - 1) (by omega)
          injection hA' with hA'
          subst hA'
          have hi1' : (1 : Int) ≤ (i : Int) := by omega
          go_wp2_with fail
          have w1 : IntKind.i64.wrap ((i : Int) - 1) = (i : Int) - 1 := IntWalk.i64_in _ (by omega)
          have w2 : ((i : Int) - 1).toNat = i - 1 := by omega
          have w3 : (0 : Int) ≤ (i : Int) - 1 := by omega
          have w4 : (i : Int) - 1 < (n : Int) := by omega
          have hsb : ∀ w', Below w.heap.size w w' → w'.cell? (ad.add (i * 2)) = some (.int .i64 (F i)) ∧ w'.cell? ⟨(ad.add (i * 2)).block, (ad.add (i * 2)).off + 1, none⟩ = some (.int .i64 (L i)) ∧ w'.cell? (ad.add ((i - 1) * 2)) = some (.int .i64 (F (i - 1))) ∧ w'.cell? ⟨(ad.add ((i - 1) * 2)).block, (ad.add ((i - 1) * 2)).off + 1, none⟩ = some (.int .i64 (L (i - 1))) := fun w' hb => by
            have l := Nat.lt_of_lt_of_le hl h.le
            exact ⟨(hb.cell (p := ad.add (i * 2)) (in_add l)).trans r0, (hb.cell (p := ⟨(ad.add (i * 2)).block, (ad.add (i * 2)).off + 1, none⟩) (in_add l)).trans r1, (hb.cell (p := ad.add ((i - 1) * 2)) (in_add l)).trans s0, (hb.cell (p := ⟨(ad.add ((i - 1) * 2)).block, (ad.add ((i - 1) * 2)).off + 1, none⟩) (in_add l)).trans s1⟩
          have HSB := hid hsb
          clear hsb
          go_region_held3 (fun w' => w'.cell? (ad.add (i * 2)) = some (.int .i64 (F i)) ∧ w'.cell? ⟨(ad.add (i * 2)).block, (ad.add (i * 2)).off + 1, none⟩ = some (.int .i64 (L i)) ∧ w'.cell? (ad.add ((i - 1) * 2)) = some (.int .i64 (F (i - 1))) ∧ w'.cell? ⟨(ad.add ((i - 1) * 2)).block, (ad.add ((i - 1) * 2)).off + 1, none⟩ = some (.int .i64 (L (i - 1)))) ((refine HSB.out _ ?_; repeat (first | with_reducible exact Below.refl _ _ | with_reducible refine Below.drew ?_ | (with_reducible refine Below.alloc ?_ (by simp) _) | (with_reducible refine Below.setCell ?_ (by simp) _)))) (fail)
          all_goals
            clear w1 w2 w3 w4 r0 r1 s0 s1
            have lo' := HF.out
            have u := hS.up (i - 1) (by omega)
            rw [Nat.sub_add_cancel (by omega)] at u
            have sb := seg_bd hS (i := i - 1) (t := t) (by omega) (by omega) (by rw [Nat.sub_add_cancel (by omega)]; omega)
            rw [Nat.sub_add_cancel (by omega)] at sb
            have fl := hS.f i hlt
            have fl' := hS.f (i - 1) (by omega)
            have ll := hS.l i hlt
            have ll' := hS.l (i - 1) (by omega)
            have HE := hid (show Td n F L t (L (i - 1) + (L i - L (i - 1)) * (t - F (i - 1)) / (F i - F (i - 1))) from .inr (.inr ⟨i - 1, by omega, by omega, by rw [Nat.sub_add_cancel (by omega)]; omega, by unfold seg; rw [Nat.sub_add_cancel (by omega)]⟩))
            have hcall := fun W : World => floorDiv_any ((L i - L (i - 1)) * (t - F (i - 1))) (F i - F (i - 1)) W (by omega) (by omega) (by omega) (by omega)
            have Hcall := hid hcall
            have y0 : IntKind.i64.wrap (L i - L (i - 1)) = L i - L (i - 1) := IntWalk.i64_in _ (by omega)
            have y1 : IntKind.i64.wrap (t - F (i - 1)) = t - F (i - 1) := IntWalk.i64_in _ (by omega)
            have y2 : IntKind.i64.wrap ((L i - L (i - 1)) * (t - F (i - 1))) = (L i - L (i - 1)) * (t - F (i - 1)) := IntWalk.i64_in _ (by omega)
            have y3 : IntKind.i64.wrap (L (i - 1) + (L i - L (i - 1)) * (t - F (i - 1)) / (F i - F (i - 1))) = L (i - 1) + (L i - L (i - 1)) * (t - F (i - 1)) / (F i - F (i - 1)) := IntWalk.i64_in _ (by omega)
            have y4 : IntKind.i64.wrap (F i - F (i - 1)) = F i - F (i - 1) := IntWalk.i64_in _ (by omega)
            clear hcall
          · have nw := two_news w (.cells #[.int .i64 (F (i - 1)), .int .i64 (L (i - 1))] 115) (.cells #[.int .i64 (F i), .int .i64 (L i)] 115)
            generalize ((w.alloc (.cells #[.int .i64 (F (i - 1)), .int .i64 (L (i - 1))] 115)).alloc (.cells #[.int .i64 (F i), .int .i64 (L i)] 115)).drew = W1 at *
            obtain ⟨m1, m2, mb⟩ := nw
            obtain ⟨b0, b1⟩ := m1.c2
            obtain ⟨d0, d1⟩ := m2.c2
            have HB := hid mb
            clear m1 m2 mb
            obtain ⟨g, hg⟩ : ∃ g, w.heap.size = g := ⟨_, rfl⟩
            rw [hg] at b0 b1 d0 d1
            go_wp2
            go_quiet ((go_at_call 96; exact quiet_left (Hcall.out _)))
            clear y0 y1 y2 y3 y4
            go_wp2
            go_ret
            exact ⟨_, rfl, HE, HB.out.drewN' _⟩
          · have nw := two_news w (.cells #[.int .i64 (F i), .int .i64 (L i)] 115) (.cells #[.int .i64 (F (i - 1)), .int .i64 (L (i - 1))] 115)
            generalize ((w.alloc (.cells #[.int .i64 (F i), .int .i64 (L i)] 115)).alloc (.cells #[.int .i64 (F (i - 1)), .int .i64 (L (i - 1))] 115)).drew = W1 at *
            obtain ⟨m1, m2, mb⟩ := nw
            obtain ⟨b0, b1⟩ := m1.c2
            obtain ⟨d0, d1⟩ := m2.c2
            have HB := hid mb
            clear m1 m2 mb
            obtain ⟨g, hg⟩ : ∃ g, w.heap.size = g := ⟨_, rfl⟩
            rw [hg] at b0 b1 d0 d1
            go_wp2
            go_quiet ((go_at_call 96; exact quiet_left (Hcall.out _)))
            clear y0 y1 y2 y3 y4
            go_wp2
            go_ret
            exact ⟨_, rfl, HE, HB.out.drewN' _⟩
        · have HF2 := hid (show F (i + 1 - 1) < t by rw [Nat.add_sub_cancel]; omega)
          go_wp2
          go_round
          case rel => exact ⟨i + 1, by omega, by omega, by go_num, HF2⟩
          case measure => simp [intOf]; omega
      · obtain rfl : i = n := by omega
        obtain ⟨ad', hA', hl', s0, s1, sf, ss⟩ := h.at_ (i - 1) (by omega)
        injection hA' with hA'
        subst hA'
        have hi1' : (1 : Int) ≤ (i : Int) := by omega
        have w2 : ((i : Int) - 1).toNat = i - 1 := by omega
        have HE := hid (show Td i F L t (L (i - 1)) from .inr (.inl ⟨by have := HF.out; omega, rfl⟩))
        go_wp2
        go_ret
        exact ⟨_, rfl, HE, Below.refl _ _⟩

end Go.Proofs.Ytndcopljjnbkbaa
