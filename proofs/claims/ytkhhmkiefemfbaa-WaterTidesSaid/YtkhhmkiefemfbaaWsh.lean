/- HighWaters of the program and of the reference. For all marks that are right. -/
import Derived.Test.YtkhhmkiefemfbaaWsd
namespace Go.Proofs.Ytkhhmkiefemfbaa
open Go.RowKit Kb Wb

theorem Pa.sub {w : World} {B0 n : Nat} {ad : Addr} {F S : Nat → Int} (h : Pa w B0 (some ad) n F S) (i : Nat) (hi : i ≤ n) : Pa w B0 (some (ad.add (i * 2))) (n - i) (fun j => F (i + j)) (fun j => S (i + j)) :=
  ⟨fun j hj => by
    obtain ⟨ad', e, h1, h2, h3, h4, h5⟩ := h.at_ (i + j) (by omega)
    injection e with e
    subst e
    refine ⟨_, rfl, by rw [block_of_add]; exact h1, ?_, ?_, h4, h5⟩
    · rw [add_of_add, show i * 2 + j * 2 = (i + j) * 2 by omega]; exact h2
    · rw [add_of_add, show i * 2 + j * 2 = (i + j) * 2 by omega]; exact h3, h.le⟩

/-- r is the place of the first number other than x, or -1. -/
def Ix (m : Nat) (L : Nat → Int) (x r : Int) : Prop := (r = -1 ∧ ∀ j, j < m → L j = x) ∨ ∃ j : Nat, j < m ∧ (∀ k, k < j → L k = x) ∧ L j ≠ x ∧ r = j

set_option maxRecDepth 100000 in
theorem other_any {w : World} {gb : Nat} {x : Int} (f l : Int) (hx : w.cell? ⟨gb, 1, none⟩ = some (.int .i64 x)) (hg : gb < w.heap.size) :
    Calls Try.prog 40 #[.agg #[.int .i64 f, .int .i64 l], .pointer (some ⟨gb, 0, none⟩)] w fun e w' => e = .returned (.bool (l != x)) ∧ Below w.heap.size w w' := by
  have hb := alo (W := w) (o := (.cells #[.int .i64 f, .int .i64 l] 43))
  have hx' := (hb.cell (p := ⟨gb, 1, none⟩) hg).trans hx
  have jb := (Bk.of_alloc w (.cells #[.int .i64 f, .int .i64 l] 43) rfl).c2
  go_enter Try.func40, Try.ntmps40
  go_wp2
  go_ret
  exact ⟨rfl, hb⟩

set_option maxRecDepth 100000 in
set_option maxHeartbeats 4000000 in
theorem IndexFunc_any {w : World} {B0 m c gb : Nat} {A : Option Addr} {F L : Nat → Int} {x : Int} (h : Pa w B0 A m F L) (hm : m ≤ 1000) (hx : w.cell? ⟨gb, 1, none⟩ = some (.int .i64 x)) (hg : gb < w.heap.size) :
    Calls Try.prog 39 #[.slice A m c, .func (.func 40) #[] #[.pointer (some ⟨gb, 0, none⟩)]] w fun e w' => ∃ r : Int, e = .returned (.int .i64 r) ∧ Hid (Ix m L x r) ∧ Below w.heap.size w w' := by
  go_enter Try.func39, Try.ntmps39
  go_wp2_with fail
  go_loopw [5, 8] (fun _ iv wr => ∃ i : Nat, i ≤ m ∧ iv = .int .i64 i ∧ Hid (∀ j, j < i → L j = x) ∧ Below w.heap.size w wr) (fun _ iv _ => m - (intOf iv).toNat)
  case atStart => exact ⟨0, Nat.zero_le _, rfl, hid (fun j hj => absurd hj (Nat.not_lt_zero _)), Below.refl _ _⟩
  case round =>
    obtain ⟨i, hi, rfl, HN, hbel⟩ := hrel
    have hw := h.below hbel
    have hxw := (hbel.cell (p := ⟨gb, 1, none⟩) hg).trans hx
    have hgw := Nat.lt_of_lt_of_le hg hbel.size
    have Hbel := hid hbel
    have Hx := hid hx
    clear hbel hx
    by_cases hlt : i < m
    · obtain ⟨ad, hA, hl, q0, q1, qf, qs⟩ := hw.at_ i hlt
      subst hA
      by_cases hc : L i = x
      · have hd : (L i != x) = false := by rw [bne_eq_false_iff_eq]; exact hc
        have HN2 := hid (show ∀ j, j < i + 1 → L j = x from fun j hj => by
          by_cases e : j = i
          · subst e; exact hc
          · exact HN.out j (by omega))
        clear hc
        go_wp2_with fail
        refine (other_any _ _ hxw hgw).mono ?_
        rintro e w2 ⟨rfl, hb⟩
        have HB := hid (Hbel.out.trans (hb.mono Hbel.out.size))
        clear hb hxw q0 q1
        go_wp2
        go_roundw
        case rel => exact ⟨i + 1, by omega, by go_num, HN2, HB.out⟩
        case measure => simp [intOf]; omega
      · have hd : (L i != x) = true := by rw [bne_iff_ne]; exact hc
        have HE := hid (show Ix m L x (i : Int) from .inr ⟨i, hlt, HN.out, hc, rfl⟩)
        clear hc
        go_wp2_with fail
        refine (other_any _ _ hxw hgw).mono ?_
        rintro e w2 ⟨rfl, hb⟩
        have HB := hid (Hbel.out.trans (hb.mono Hbel.out.size))
        clear hb hxw q0 q1
        go_wp2
        go_ret
        exact ⟨_, rfl, HE, HB.out⟩
    · obtain rfl : i = m := by omega
      have HE := hid (show Ix i L x (-1) from .inl ⟨rfl, HN.out⟩)
      clear hxw
      go_wp2
      go_ret
      exact ⟨_, rfl, HE, Hbel.out⟩

theorem info_mark : (Try.prog.info? 43).map (fun i => (i.zero, i.size, i.bytes)) = some (some (.agg #[.int .i64 0, .int .i64 0]), 2, 16) := by kernel_rfl
theorem own_below {w w' : World} {base : Nat} {e : TypeId} {size : Nat} {v : Value} {n : Nat} {xs : List Value} (h : w.ownsRow base e size v n xs) (hb : Below w.heap.size w w') : w'.ownsRow base e size v n xs :=
  h.kept (gb_of_below (r := none) hb) (by cases hv : v.ownBlock <;> simp)
/-- The cells of some of the marks. -/
def mks (F L : Nat → Int) (l : List Nat) : List Value := l.flatMap fun i => [.int .i64 (F i), .int .i64 (L i)]
theorem mks_snoc (F L : Nat → Int) (l : List Nat) (i : Nat) : mks F L l ++ [.int .i64 (F i), .int .i64 (L i)] = mks F L (l ++ [i]) := by simp [mks]
theorem own_snoc {w : World} {B : Nat} {T : TypeId} {v : Value} {F L : Nat → Int} {l : List Nat} {i : Nat} (h : w.ownsRow B T 2 v (l.length + 1) (mks F L l ++ [.int .i64 (F i), .int .i64 (L i)])) : w.ownsRow B T 2 v (l ++ [i]).length (mks F L (l ++ [i])) := by
  rw [List.length_append, ← mks_snoc]; exact h
theorem mark_cells {w : World} {g : Nat} {a b : Value} {T : TypeId} (h : Bk w g (.cells #[a, b] T (0, 0))) : ∀ j u, [a, b][j]? = some u → w.cell? ((⟨g, 0, none⟩ : Addr).add j) = some u := fun j u hu => by
  have hh := fun i => cell_of_row w g i _ T (0, 0) h
  match j, hu with
  | 0, hu => exact (hh 0).trans (by simpa using hu)
  | 1, hu => exact (hh 1).trans (by simpa using hu)
theorem ix_at {n : Nat} {L : Nat → Int} {i : Nat} {r : Int} (h0 : 0 < i → L (i - 1) < L i) (hi : i < n) (h : Ix (n - i) (fun j => L (i + j)) (L i) r) : (r = -1 ∧ Hw n L i) ∨ ∃ k : Nat, 1 ≤ k ∧ i + k < n ∧ r = k ∧ (Hw n L i ↔ L (i + k) < L i) := by
  rcases h with ⟨h1, h2⟩ | ⟨j, h1, h2, h3, h4⟩
  · refine .inl ⟨h1, (hw_iff h0 (k := n) hi (Nat.le_refl _) (fun j a b => ?_) (fun h => by omega)).2 (.inl rfl)⟩
    have := h2 (j - i) (by omega)
    simp only at this
    rwa [show i + (j - i) = j by omega] at this
  · have hj : 1 ≤ j := by
      rcases Nat.eq_zero_or_pos j with e | e
      · subst e; exact absurd rfl h3
      · exact e
    refine .inr ⟨j, hj, by omega, h4, ?_⟩
    rw [hw_iff h0 (k := i + j) (by omega) (by omega) (fun k a b => ?_) (fun _ => h3)]
    · exact ⟨fun h => h.elim (fun e => by omega) id, .inr⟩
    · have := h2 (k - i) (by omega)
      simp only at this
      rwa [show i + (k - i) = k by omega] at this

set_option maxRecDepth 100000 in
set_option maxHeartbeats 8000000 in
theorem HighWaters_ok {w : World} {B0 n c : Nat} {A : Option Addr} {F L : Nat → Int} (h : Pa w B0 A n F L) (hn : n ≤ maxLen) (hnc : n ≤ c) (hS : Hid (Cs n F L 0)) :
    Calls Try.prog 16 #[.slice A n c] w fun e w' => ∃ v : Value, e = .returned (.tuple #[v, .int .i64 0]) ∧ Hid (w'.ownsRow w.heap.size 43 2 v (hwl n L n).length (mks F L (hwl n L n))) ∧ Below w.heap.size w w' := by
  have hn4 := hS.out.sea.most
  obtain ⟨i0, hi0, hz0, hz1, hz2⟩ := info_parts info_mark
  have hlen := fun k => hwl_len (n := n) (L := L) k
  go_enter Try.func16, Try.ntmps16
  go_wp2_with fail
  refine ((CheckSea_any h hn).mono ?_)
  rintro e w1 ⟨q, rfl, hz, hb⟩
  obtain rfl := hz.out.same hS.out
  have p1 := h.below hb
  have HB1 := hid hb
  have Hh := hid h
  have Hlen := hid hlen
  clear hb hz h hlen
  go_wp2_with fail
  go_loopw [5, 16] (fun sv iv wr => ∃ i : Nat, i ≤ n ∧ iv = .int .i64 i ∧ Hid (wr.ownsRow w.heap.size 43 2 sv (hwl n L i).length (mks F L (hwl n L i))) ∧ Below w.heap.size w wr) (fun _ iv _ => n - (intOf iv).toNat)
  case atStart => exact ⟨0, Nat.zero_le _, rfl, hid (World.ownsRow_nil _ _ _ _), HB1.out⟩
  case round =>
    obtain ⟨i, hi, rfl, HO0, hbel⟩ := hrel
    have hw := Hh.out.below (hbel.mono (Nat.le_refl _))
    have Hbel := hid hbel
    have hll := Hlen.out i
    clear hbel p1
    by_cases hlt : i < n
    · obtain ⟨ad, hA, hl, q0, q1, qf, qs⟩ := hw.at_ i hlt
      subst hA
      have hl2 := Nat.lt_of_lt_of_le hl hw.le
      obtain ⟨gb, hgb⟩ : ∃ gb, wr.heap.size = gb := ⟨_, rfl⟩
      have jb := Bk.of_alloc wr (.cells #[.int .i64 (F i), .int .i64 (L i)] 43) hgb
      have ha := alo (W := wr) (o := (.cells #[.int .i64 (F i), .int .i64 (L i)] 43))
      have hwa := hw.below ha
      have Hba := hid (Hbel.out.trans (ha.mono Hbel.out.size))
      have own2 := HO0.out.alloc (.cells #[.int .i64 (F i), .int .i64 (L i)] 43)
      have Hsz := hid Hbel.out.size
      clear hw
      go_upto_region 8 with (fail)
      generalize wr.alloc (.cells #[.int .i64 (F i), .int .i64 (L i)] 43) = wa at *
      have Hgb := hid hgb
      have Ha := hid ha
      have O2 := hid own2
      clear q0 q1 hgb ha own2
      obtain ⟨b0, b1⟩ := jb.c2
      have hgl := jb.lt
      have pw1 := hwa
      have jb1 := jb
      have HB1' := Hba
      have Own1 := O2
      clear hwa jb Hba O2
      by_cases hp : 0 < i
      · obtain ⟨ad', hA', hl', p0, p1, pf, ps⟩ := pw1.at_ (i - 1) (by omega)
        injection hA' with hA'
        subst hA'
        have hip : (decide ((0 : Int) < (i : Int))) = true := decide_eq_true (by omega)
        have hip2 : (decide (0 < i)) = true := decide_eq_true hp
        have hi1 : (1 : Int) ≤ (i : Int) := by omega
        by_cases ho : L (i - 1) < L i
        · have hod : decide (L i ≤ L (i - 1)) = false := decide_eq_false (by omega)
          have h0 := hid (show 0 < i → L (i - 1) < L i from fun _ => ho)
          go_wp2
          have w1 : IntKind.i64.wrap ((i : Int) - 1) = (i : Int) - 1 := IntWalk.i64_in _ (by omega)
          have w2 : ((i : Int) - 1).toNat = i - 1 := by omega
          have w3 : (0 : Int) ≤ (i : Int) - 1 := by omega
          have w4 : (i : Int) - 1 < (n : Int) := by omega
          go_quiet (fail)
          clear w1 w2 w3 w4 p0 p1
          have hq := below_drewN (Below.refl wa.heap.size wa) nq
          have pw2 := pw1.below hq
          have jb2 := jb1.step hq
          have HB2 := hid (HB1'.out.drewN' nq)
          have Own2 := hid (own_below Own1.out hq)
          clear hq b0 b1
          generalize wa.drewN nq = W2 at *
          obtain ⟨b0, b1⟩ := jb2.c2
          have hgl2 := jb2.lt
          have psub := pw2.sub i hi
          have hic : i < c := by omega
          go_wp2_with fail
          refine (IndexFunc_any psub (by omega) b1 hgl2).mono ?_
          rintro e w3 ⟨r, rfl, hr, hb⟩
          have pwr := pw2.below hb
          have jbr := jb2.step hb
          have HBr := hid (HB2.out.trans (hb.mono HB2.out.size))
          have Ownr := hid (own_below Own2.out hb)
          clear hb b0 b1 psub pw2 jb2 hgl2
          obtain ⟨b0, b1⟩ := jbr.c2
          rcases ix_at h0.out hlt hr.out with ⟨hr1, hw⟩ | ⟨k, hk1, hk2, hrk, hk⟩
          · subst hr1
            have HW := hid hw
            clear hw hr
            go_wp2
            go_quiet (fail)
            have hq := below_drewN (Below.refl w3.heap.size w3) nq
            have pw3 := pwr.below hq
            have jb3 := jbr.step hq
            have HB3 := hid (HBr.out.drewN' nq)
            have Own3 := hid (own_below Ownr.out hq)
            clear hq b0 b1
            generalize w3.drewN nq = W3 at *
            obtain ⟨b0, b1⟩ := jb3.c2
            have hgl3 := jb3.lt
            have jr := jb3.alloc (.cells (#[.int .i64 (F i), .int .i64 (L i)]) 43)
            have hrow := Bk.of_alloc W3 (.cells (#[.int .i64 (F i), .int .i64 (L i)]) 43) rfl
            have hown' := Own3.out.alloc (.cells (#[.int .i64 (F i), .int .i64 (L i)]) 43)
            have hB' : w.heap.size ≤ (W3.alloc (.cells (#[.int .i64 (F i), .int .i64 (L i)]) 43)).heap.size := by have := HB3.out.size; simp; omega
            have hbel := HB3.out.alloc HB3.out.size (.cells (#[.int .i64 (F i), .int .i64 (L i)]) 43)
            have hcl := mark_cells hrow
            go_wp2_with (at_builtin; (refine wpList_append_own _ rfl (.tmp 53) (.tmp 55) 34 rfl w.heap.size 43 i0 (.agg #[.int .i64 0, .int .i64 0]) 2 16 Try.underlying34 hi0 hz0 hz1 hz2 rfl (by decide) u5 _ _ rfl hown' ⟨W3.heap.size, 0, none⟩ 1 1 [.int .i64 (F i), .int .i64 (L i)] rfl rfl hcl ?_ (by unfold maxLen; omega) (by omega) hB' ?_))
            · intro u hu; simp only [List.mem_cons, List.not_mem_nil, or_false] at hu; rcases hu with rfl | rfl <;> rfl
            intro v' w4 hown4 hgrow _
            have hb4 := hbel.grown hgrow hB' (fun k hk => (hown'.lt k hk).1)
            have HO := hid (own_snoc hown4)
            rw [← hwl_yes HW.out] at HO
            have HB4 := hid hb4
            clear hb4 hown4 hgrow hown' hcl hrow jr hbel hB'
            go_wp2
            go_roundw
            case rel => exact ⟨i + 1, by omega, by go_num, HO, HB4.out⟩
            case measure => simp [intOf]; omega
          · have dk : decide ((k : Int) < 0) = false := decide_eq_false (by omega)
            subst hrk
            obtain ⟨ad', hA', hl', r0, r1, rf, rs⟩ := pwr.at_ (i + k) hk2
            injection hA' with hA'
            subst hA'
            have Hk := hid hk
            clear hk hr
            by_cases hlk : L (i + k) < L i
            · have dl : decide (L (i + k) < L i) = true := decide_eq_true hlk
              have HW := hid (Hk.out.2 hlk)
              go_wp2
              have w1 : IntKind.i64.wrap ((i : Int) + (k : Int)) = (i : Int) + (k : Int) := IntWalk.i64_in _ (by omega)
              have w2 : ((i : Int) + (k : Int)).toNat = i + k := by omega
              have w3' : (0 : Int) ≤ (i : Int) + (k : Int) := by omega
              have w4 : (i : Int) + (k : Int) < (n : Int) := by omega
              go_quiet (fail)
              clear w1 w2 w3' w4 r0 r1
              have hq := below_drewN (Below.refl w3.heap.size w3) nq
              have pw3 := pwr.below hq
              have jb3 := jbr.step hq
              have HB3 := hid (HBr.out.drewN' nq)
              have Own3 := hid (own_below Ownr.out hq)
              clear hq b0 b1
              generalize w3.drewN nq = W3 at *
              obtain ⟨b0, b1⟩ := jb3.c2
              have hgl3 := jb3.lt
              have jr := jb3.alloc (.cells (#[.int .i64 (F i), .int .i64 (L i)]) 43)
              have hrow := Bk.of_alloc W3 (.cells (#[.int .i64 (F i), .int .i64 (L i)]) 43) rfl
              have hown' := Own3.out.alloc (.cells (#[.int .i64 (F i), .int .i64 (L i)]) 43)
              have hB' : w.heap.size ≤ (W3.alloc (.cells (#[.int .i64 (F i), .int .i64 (L i)]) 43)).heap.size := by have := HB3.out.size; simp; omega
              have hbel := HB3.out.alloc HB3.out.size (.cells (#[.int .i64 (F i), .int .i64 (L i)]) 43)
              have hcl := mark_cells hrow
              go_wp2_with (at_builtin; (refine wpList_append_own _ rfl (.tmp 53) (.tmp 55) 34 rfl w.heap.size 43 i0 (.agg #[.int .i64 0, .int .i64 0]) 2 16 Try.underlying34 hi0 hz0 hz1 hz2 rfl (by decide) u5 _ _ rfl hown' ⟨W3.heap.size, 0, none⟩ 1 1 [.int .i64 (F i), .int .i64 (L i)] rfl rfl hcl ?_ (by unfold maxLen; omega) (by omega) hB' ?_))
              · intro u hu; simp only [List.mem_cons, List.not_mem_nil, or_false] at hu; rcases hu with rfl | rfl <;> rfl
              intro v' w4 hown4 hgrow _
              have hb4 := hbel.grown hgrow hB' (fun k hk => (hown'.lt k hk).1)
              have HO := hid (own_snoc hown4)
              rw [← hwl_yes HW.out] at HO
              have HB4 := hid hb4
              clear hb4 hown4 hgrow hown' hcl hrow jr hbel hB'
              go_wp2
              go_roundw
              case rel => exact ⟨i + 1, by omega, by go_num, HO, HB4.out⟩
              case measure => simp [intOf]; omega
            · have dl : decide (L (i + k) < L i) = false := decide_eq_false hlk
              have HO := hid Ownr.out
              rw [← hwl_no (fun hw => hlk (Hk.out.1 hw))] at HO
              go_wp2
              have w1 : IntKind.i64.wrap ((i : Int) + (k : Int)) = (i : Int) + (k : Int) := IntWalk.i64_in _ (by omega)
              have w2 : ((i : Int) + (k : Int)).toNat = i + k := by omega
              have w3' : (0 : Int) ≤ (i : Int) + (k : Int) := by omega
              have w4 : (i : Int) + (k : Int) < (n : Int) := by omega
              go_quiet (fail)
              clear w1 w2 w3' w4 r0 r1
              go_wp2
              go_roundw
              case rel => exact ⟨i + 1, by omega, by go_num, HO, HBr.out.drewN' _⟩
              case measure => simp [intOf]; omega
        · have hod : decide (L i ≤ L (i - 1)) = true := decide_eq_true (by omega)
          have HO := hid Own1.out
          rw [← hwl_no (fun hw => ho (hw.1 hp))] at HO
          go_wp2
          have w1 : IntKind.i64.wrap ((i : Int) - 1) = (i : Int) - 1 := IntWalk.i64_in _ (by omega)
          have w2 : ((i : Int) - 1).toNat = i - 1 := by omega
          have w3 : (0 : Int) ≤ (i : Int) - 1 := by omega
          have w4 : (i : Int) - 1 < (n : Int) := by omega
          go_quiet (fail)
          clear w1 w2 w3 w4 p0 p1
          go_wp2
          go_roundw
          case rel => exact ⟨i + 1, by omega, by go_num, HO, HB1'.out.drewN' _⟩
          case measure => simp [intOf]; omega
      · have hip : (decide ((0 : Int) < (i : Int))) = false := decide_eq_false (by omega)
        have hip2 : (decide (0 < i)) = false := decide_eq_false hp
        have h0 := hid (show 0 < i → L (i - 1) < L i from fun h => absurd h hp)
        go_wp2
        go_quiet (fail)
        have hq := below_drewN (Below.refl wa.heap.size wa) nq
        have pw2 := pw1.below hq
        have jb2 := jb1.step hq
        have HB2 := hid (HB1'.out.drewN' nq)
        have Own2 := hid (own_below Own1.out hq)
        clear hq b0 b1
        generalize wa.drewN nq = W2 at *
        obtain ⟨b0, b1⟩ := jb2.c2
        have hgl2 := jb2.lt
        have psub := pw2.sub i hi
        have hic : i < c := by omega
        go_wp2_with fail
        refine (IndexFunc_any psub (by omega) b1 hgl2).mono ?_
        rintro e w3 ⟨r, rfl, hr, hb⟩
        have pwr := pw2.below hb
        have jbr := jb2.step hb
        have HBr := hid (HB2.out.trans (hb.mono HB2.out.size))
        have Ownr := hid (own_below Own2.out hb)
        clear hb b0 b1 psub pw2 jb2 hgl2
        obtain ⟨b0, b1⟩ := jbr.c2
        rcases ix_at h0.out hlt hr.out with ⟨hr1, hw⟩ | ⟨k, hk1, hk2, hrk, hk⟩
        · subst hr1
          have HW := hid hw
          clear hw hr
          go_wp2
          go_quiet (fail)
          have hq := below_drewN (Below.refl w3.heap.size w3) nq
          have pw3 := pwr.below hq
          have jb3 := jbr.step hq
          have HB3 := hid (HBr.out.drewN' nq)
          have Own3 := hid (own_below Ownr.out hq)
          clear hq b0 b1
          generalize w3.drewN nq = W3 at *
          obtain ⟨b0, b1⟩ := jb3.c2
          have hgl3 := jb3.lt
          have jr := jb3.alloc (.cells (#[.int .i64 (F i), .int .i64 (L i)]) 43)
          have hrow := Bk.of_alloc W3 (.cells (#[.int .i64 (F i), .int .i64 (L i)]) 43) rfl
          have hown' := Own3.out.alloc (.cells (#[.int .i64 (F i), .int .i64 (L i)]) 43)
          have hB' : w.heap.size ≤ (W3.alloc (.cells (#[.int .i64 (F i), .int .i64 (L i)]) 43)).heap.size := by have := HB3.out.size; simp; omega
          have hbel := HB3.out.alloc HB3.out.size (.cells (#[.int .i64 (F i), .int .i64 (L i)]) 43)
          have hcl := mark_cells hrow
          go_wp2_with (at_builtin; (refine wpList_append_own _ rfl (.tmp 53) (.tmp 55) 34 rfl w.heap.size 43 i0 (.agg #[.int .i64 0, .int .i64 0]) 2 16 Try.underlying34 hi0 hz0 hz1 hz2 rfl (by decide) u5 _ _ rfl hown' ⟨W3.heap.size, 0, none⟩ 1 1 [.int .i64 (F i), .int .i64 (L i)] rfl rfl hcl ?_ (by unfold maxLen; omega) (by omega) hB' ?_))
          · intro u hu; simp only [List.mem_cons, List.not_mem_nil, or_false] at hu; rcases hu with rfl | rfl <;> rfl
          intro v' w4 hown4 hgrow _
          have hb4 := hbel.grown hgrow hB' (fun k hk => (hown'.lt k hk).1)
          have HO := hid (own_snoc hown4)
          rw [← hwl_yes HW.out] at HO
          have HB4 := hid hb4
          clear hb4 hown4 hgrow hown' hcl hrow jr hbel hB'
          go_wp2
          go_roundw
          case rel => exact ⟨i + 1, by omega, by go_num, HO, HB4.out⟩
          case measure => simp [intOf]; omega
        · have dk : decide ((k : Int) < 0) = false := decide_eq_false (by omega)
          subst hrk
          obtain ⟨ad', hA', hl', r0, r1, rf, rs⟩ := pwr.at_ (i + k) hk2
          injection hA' with hA'
          subst hA'
          have Hk := hid hk
          clear hk hr
          by_cases hlk : L (i + k) < L i
          · have dl : decide (L (i + k) < L i) = true := decide_eq_true hlk
            have HW := hid (Hk.out.2 hlk)
            go_wp2
            have w1 : IntKind.i64.wrap ((i : Int) + (k : Int)) = (i : Int) + (k : Int) := IntWalk.i64_in _ (by omega)
            have w2 : ((i : Int) + (k : Int)).toNat = i + k := by omega
            have w3' : (0 : Int) ≤ (i : Int) + (k : Int) := by omega
            have w4 : (i : Int) + (k : Int) < (n : Int) := by omega
            go_quiet (fail)
            clear w1 w2 w3' w4 r0 r1
            have hq := below_drewN (Below.refl w3.heap.size w3) nq
            have pw3 := pwr.below hq
            have jb3 := jbr.step hq
            have HB3 := hid (HBr.out.drewN' nq)
            have Own3 := hid (own_below Ownr.out hq)
            clear hq b0 b1
            generalize w3.drewN nq = W3 at *
            obtain ⟨b0, b1⟩ := jb3.c2
            have hgl3 := jb3.lt
            have jr := jb3.alloc (.cells (#[.int .i64 (F i), .int .i64 (L i)]) 43)
            have hrow := Bk.of_alloc W3 (.cells (#[.int .i64 (F i), .int .i64 (L i)]) 43) rfl
            have hown' := Own3.out.alloc (.cells (#[.int .i64 (F i), .int .i64 (L i)]) 43)
            have hB' : w.heap.size ≤ (W3.alloc (.cells (#[.int .i64 (F i), .int .i64 (L i)]) 43)).heap.size := by have := HB3.out.size; simp; omega
            have hbel := HB3.out.alloc HB3.out.size (.cells (#[.int .i64 (F i), .int .i64 (L i)]) 43)
            have hcl := mark_cells hrow
            go_wp2_with (at_builtin; (refine wpList_append_own _ rfl (.tmp 53) (.tmp 55) 34 rfl w.heap.size 43 i0 (.agg #[.int .i64 0, .int .i64 0]) 2 16 Try.underlying34 hi0 hz0 hz1 hz2 rfl (by decide) u5 _ _ rfl hown' ⟨W3.heap.size, 0, none⟩ 1 1 [.int .i64 (F i), .int .i64 (L i)] rfl rfl hcl ?_ (by unfold maxLen; omega) (by omega) hB' ?_))
            · intro u hu; simp only [List.mem_cons, List.not_mem_nil, or_false] at hu; rcases hu with rfl | rfl <;> rfl
            intro v' w4 hown4 hgrow _
            have hb4 := hbel.grown hgrow hB' (fun k hk => (hown'.lt k hk).1)
            have HO := hid (own_snoc hown4)
            rw [← hwl_yes HW.out] at HO
            have HB4 := hid hb4
            clear hb4 hown4 hgrow hown' hcl hrow jr hbel hB'
            go_wp2
            go_roundw
            case rel => exact ⟨i + 1, by omega, by go_num, HO, HB4.out⟩
            case measure => simp [intOf]; omega
          · have dl : decide (L (i + k) < L i) = false := decide_eq_false hlk
            have HO := hid Ownr.out
            rw [← hwl_no (fun hw => hlk (Hk.out.1 hw))] at HO
            go_wp2
            have w1 : IntKind.i64.wrap ((i : Int) + (k : Int)) = (i : Int) + (k : Int) := IntWalk.i64_in _ (by omega)
            have w2 : ((i : Int) + (k : Int)).toNat = i + k := by omega
            have w3' : (0 : Int) ≤ (i : Int) + (k : Int) := by omega
            have w4 : (i : Int) + (k : Int) < (n : Int) := by omega
            go_quiet (fail)
            clear w1 w2 w3' w4 r0 r1
            go_wp2
            go_roundw
            case rel => exact ⟨i + 1, by omega, by go_num, HO, HBr.out.drewN' _⟩
            case measure => simp [intOf]; omega
    · obtain rfl : i = n := by omega
      go_wp2
      go_ret2
      exact ⟨_, rfl, HO0, Hbel.out⟩

end Go.Proofs.Ytkhhmkiefemfbaa
