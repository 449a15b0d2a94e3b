/- ExactSums answers true for every two curves and every integer, and leaves them as they were. No condition: arguments may share memory; the package variable deBruijn64tab begins as the text of the program lays it. -/
import Derived.Test.YtffipjofefemiaaGreatDoorFrameC
import Derived.Test.YtffipjofefemiaaGreatDoorSjc
import Derived.Test.YtffipjofefemiaaGreatDoorTie
import Derived.Test.YtffipjofefemiaaGreatDoorCards
import Derived.SevenTiedAt
namespace Go.Proofs.YtffipjofefemiaaGreatDoor
open Go.ChangeShapes Go.WideShapes Go.ChangeAt Go.RowKit Go.Joins Kb

section
variable {H : Type} {enc : TypeId × Value → H} {W : World} {base : Nat} {v : Value} {d : DataW H} {p : List MemPlace}
theorem ints_nil_of {fuel : Nat} {cs : List Value} {y : DataW H × List MemPlace} (h : DataW.trod enc Tryz.prog W 0 (fun _ => true) true fuel 45 cs = some y) : ∃ A n c X, cs = [.slice A n c] ∧ Si W W.heap.size A n X ∧ (A = none → n = 0 ∧ c = 0) := by
  rcases open_ints Tryz.underlying45 Tryz.underlying3 cells_intC h with ⟨rfl, _⟩ | ⟨x, l, c, zs, rfl, _, hl, hm, hz, _, hcell, hwz⟩
  · exact ⟨none, 0, 0, fun _ => 0, rfl, fun i hi => absurd hi (Nat.not_lt_zero _), fun _ => ⟨rfl, rfl⟩⟩
  · have hz' : zs.length = c := by simpa using hz
    refine ⟨some x, l, c, fun i => zs.getD i 0, rfl, fun i hi => ?_, fun h => by cases h⟩
    have h1 := hcell i (by omega)
    have h2 := World.block_lt_of_cell? W _ h1
    rw [block_of_add] at h2
    exact ⟨x, rfl, h2, h1⟩
set_option maxRecDepth 100000 in
/-- A curve that came in. -/
theorem open_Curve_nil (hv : Value.okWide Tryz.prog W .any base 48 v) (h : DataW.Trod enc Tryz.prog W 0 (fun _ => true) true 48 v d p) :
    ∃ A n c B m c' X Q wd, v = .agg #[.slice A n c, .slice B m c'] ∧ Si W W.heap.size A n X ∧ Sq0 W W.heap.size B m Q wd ∧ (A = none → n = 0 ∧ c = 0) := by
  obtain ⟨c0, c1, y0, y1, m, rfl, rfl, rfl, h0, h1⟩ := open_agg2 Tryz.underlying48 (by kernel_rfl) cells_Curve hv h
  obtain ⟨A, n, c, X, e0, hX, hA⟩ := ints_nil_of h0
  obtain ⟨B, m, c', Q, wd, e1, hQ⟩ := rats_of h1
  simp only [List.cons.injEq, and_true] at e0 e1
  subst e0; subst e1
  exact ⟨A, n, c, B, m, c', X, Q, wd, rfl, hX, hQ, hA⟩
end
/-- Every curve has its answer of CheckCurve. -/
theorem ck_has (n m : Nat) (X : Nat → Int) (Q : Nat → Rat) : ∃ d, Ck n m X Q d := by
  rcases Nat.lt_or_ge 40 n with h | h
  · exact ⟨8, .inl ⟨h, rfl⟩⟩
  · by_cases hm : m = n
    · by_cases hg : ∀ j, j < n → Gd X Q j
      · exact ⟨0, .inr (.inr (.inl ⟨h, hm, hg, rfl⟩))⟩
      · have key : ∀ k, k ≤ n → (∀ j, j < k → Gd X Q j) ∨ ∃ i, i < k ∧ (∀ j, j < i → Gd X Q j) ∧ ¬ Gd X Q i := fun k => by
          induction k with
          | zero => exact fun _ => .inl (fun j hj => absurd hj (Nat.not_lt_zero _))
          | succ k ih =>
            intro hk
            rcases ih (by omega) with h1 | ⟨i, h1, h2, h3⟩
            · by_cases h4 : Gd X Q k
              · refine .inl (fun j hj => ?_)
                rcases Nat.lt_or_ge j k with h5 | h5
                · exact h1 j h5
                · rw [show j = k by omega]
                  exact h4
              · exact .inr ⟨k, by omega, h1, h4⟩
            · exact .inr ⟨i, by omega, h2, h3⟩
        rcases key n (Nat.le_refl _) with h1 | ⟨i, h1, h2, h3⟩
        · exact absurd h1 hg
        · by_cases h4 : Fp X Q i
          · exact ⟨10, .inr (.inr (.inr ⟨h, hm, i, h1, h2, .inr ⟨h4, h3, rfl⟩⟩))⟩
          · exact ⟨2, .inr (.inr (.inr ⟨h, hm, i, h1, h2, .inl ⟨h4, rfl⟩⟩))⟩
    · exact ⟨11, .inr (.inl ⟨h, hm, rfl⟩)⟩
theorem sums_any {w : World} {A : Option Addr} {n c : Nat} {B : Option Addr} {m d : Nat} {X : Nat → Int} {Q : Nat → Rat} {wd : Nat → Bool} {A' : Option Addr} {n' c' : Nat} {B' : Option Addr} {m' d' : Nat} {X' : Nat → Int} {Q' : Nat → Rat} {wd' : Nat → Bool} {b : Int} (hs : Si w w.heap.size A n X) (hq : Sq0 w w.heap.size B m Q wd) (hA : A = none → n = 0 ∧ c = 0) (hs' : Si w w.heap.size A' n' X') (hq' : Sq0 w w.heap.size B' m' Q' wd') (hA' : A' = none → n' = 0 ∧ c' = 0) (hT : Tb w) :
    Calls Tryz.prog 5 #[.agg #[.slice A n c, .slice B m d], .agg #[.slice A' n' c', .slice B' m' d'], .int .i64 b] w fun e w' => e = .returned (.bool true) ∧ Below w.heap.size w w' := by
  by_cases hv : 60 < n ∨ (n ≤ 60 ∧ (60 < m ∨ (m ≤ 60 ∧ ∃ i, i < m ∧ wd i = true))) ∨ (n ≤ 40 ∧ 12 < n ∧ m ≤ 60 ∧ ∀ i, i < m → wd i = false)
  · exact sums_heavy1 hq hT hv
  · by_cases hv' : 60 < n' ∨ (n' ≤ 60 ∧ (60 < m' ∨ (m' ≤ 60 ∧ ∃ i, i < m' ∧ wd' i = true))) ∨ (n' ≤ 40 ∧ 12 < n' ∧ m' ≤ 60 ∧ ∀ i, i < m' → wd' i = false)
    · skip
      have hn : n ≤ 60 := by
        rcases Nat.lt_or_ge 60 n with h | h
        · exact absurd (.inl h) hv
        · exact h
      have hm : m ≤ 60 := by
        rcases Nat.lt_or_ge 60 m with h | h
        · exact absurd (.inr (.inl ⟨hn, .inl h⟩)) hv
        · exact h
      have hwd : ∀ i, i < m → wd i = false := fun i hi => by
        cases hw : wd i with
        | false => rfl
        | true => exact absurd (.inr (.inl ⟨hn, .inr ⟨hm, i, hi, hw⟩⟩)) hv
      have ho : 40 < n ∨ n ≤ 12 := by
        rcases Nat.lt_or_ge 40 n with h | h
        · exact .inl h
        · rcases Nat.lt_or_ge 12 n with h' | h'
          · exact absurd (.inr (.inr ⟨h, h', hm, hwd⟩)) hv
          · exact .inr h'
      exact sums_heavy2 hq hq' hT hn hm hwd ho hv'
    · skip
      have hn : n ≤ 60 := by
        rcases Nat.lt_or_ge 60 n with h | h
        · exact absurd (.inl h) hv
        · exact h
      have hm : m ≤ 60 := by
        rcases Nat.lt_or_ge 60 m with h | h
        · exact absurd (.inr (.inl ⟨hn, .inl h⟩)) hv
        · exact h
      have hwd : ∀ i, i < m → wd i = false := fun i hi => by
        cases hw : wd i with
        | false => rfl
        | true => exact absurd (.inr (.inl ⟨hn, .inr ⟨hm, i, hi, hw⟩⟩)) hv
      have ho : 40 < n ∨ n ≤ 12 := by
        rcases Nat.lt_or_ge 40 n with h | h
        · exact .inl h
        · rcases Nat.lt_or_ge 12 n with h' | h'
          · exact absurd (.inr (.inr ⟨h, h', hm, hwd⟩)) hv
          · exact .inr h'
      have hn' : n' ≤ 60 := by
        rcases Nat.lt_or_ge 60 n' with h | h
        · exact absurd (.inl h) hv'
        · exact h
      have hm' : m' ≤ 60 := by
        rcases Nat.lt_or_ge 60 m' with h | h
        · exact absurd (.inr (.inl ⟨hn', .inl h⟩)) hv'
        · exact h
      have hwd' : ∀ i, i < m' → wd' i = false := fun i hi => by
        cases hw : wd' i with
        | false => rfl
        | true => exact absurd (.inr (.inl ⟨hn', .inr ⟨hm', i, hi, hw⟩⟩)) hv'
      have ho' : 40 < n' ∨ n' ≤ 12 := by
        rcases Nat.lt_or_ge 40 n' with h | h
        · exact .inl h
        · rcases Nat.lt_or_ge 12 n' with h' | h'
          · exact absurd (.inr (.inr ⟨h, h', hm', hwd'⟩)) hv'
          · exact .inr h'
      obtain ⟨rr, HK⟩ := ck_has n m X Q
      obtain ⟨ss, HK'⟩ := ck_has n' m' X' Q'
      by_cases hr : rr = 0
      · subst hr
        obtain ⟨h40, hmn, hgd⟩ := Ck.valid HK rfl
        subst hmn
        have OA : Okc m X Q := okc_of (by omega) hgd
        by_cases hr' : ss = 0
        · subst hr'
          obtain ⟨h40', hmn', hgd'⟩ := Ck.valid HK' rfl
          subst hmn'
          have OB : Okc m' X' Q' := okc_of (by omega) hgd'
          exact sums_good hs hq hs' hq' hA hA' hT hn hwd ho hn' hwd' ho' (hid HK) (hid OA) (hid HK') (hid OB)
        · exact sums_bad2 hs hq hs' hq' hT hn hwd ho hn' hm' hwd' ho' (hid HK) (hid OA) (hid HK') hr'
      · exact sums_bad1 hs hq hs' hq' hT hn hm hwd ho hn' hm' hwd' ho' (hid HK) (hid HK') hr

set_option maxRecDepth 100000 in
theorem sums_lifted (os : Os) (started : os.Started) (H : Type) (enc : TypeId × Value → H) :
    ReturnsInHanded {} Tryz.checked os 5 .any (fun w args => (Rows.exactSumsSpec.pre enc Tryz.prog Tryz.f5 [] false w args ∧ laidMetH Tryz.prog tabRow w) ∧ sizedMet enc Tryz.prog Tryz.f5 (OpenSpec.ofChange Rows.exactSumsSpec) false w args)
      (Rows.exactSumsSpec.post enc Tryz.prog Tryz.f5 false true false false) := by
  refine returnsInHanded_of_change_and (C := Tryz.checked) (X := fun w _ => laidMetH Tryz.prog tabRow w) (fun _ _ _ hh h => h.of_heap hh) own started (by kernel_rfl) Tryz.func5
    (ChangeSpec.witness_shaped (enc := enc) (C := Tryz.checked) (os := os) (X := fun w _ => laidMetH Tryz.prog tabRow w) false (World.doorLaid Tryz.prog 400 os) #[.agg #[.slice none 0 0, .slice none 0 0], .agg #[.slice none 0 0, .slice none 0 0], .int .i64 0] 8 rfl (World.shaped_of_RefB (by kernel_rfl) (by kernel_rfl)) (by kernel_rfl) (by kernel_rfl) (by kernel_rfl) (door_met os _)) ?_
  intro W base args ds gs before hval0 hW _ _ hL _
  have hval : ∀ (j : Nat) t v, Tryz.f5.params[j]? = some t → args[j]? = some v → Value.okWide Tryz.prog W .any base t v := hval0
  have hW' := hW
  obtain ⟨p, q, hA0, hV, rfl, hfz, hnd⟩ := hW
  have hA : DataW.TrodAll enc Tryz.prog W 0 (fun _ => true) true Tryz.f5.params.toList args.toList ds p := hA0
  rw [Tryz.params5] at hA hval
  obtain ⟨v0, vs0, d0, ds0, p0, q0, hargs, rfl, rfl, h0, r0⟩ := trodAll_cons hA
  obtain ⟨v1, vs1, d1, ds1, p1, q1, rfl, rfl, rfl, h1, r1⟩ := trodAll_cons r0
  obtain ⟨v2, vs2, d2, ds2, p2, q2, rfl, rfl, rfl, h2, r2⟩ := trodAll_cons r1
  obtain ⟨rfl, rfl, rfl⟩ := trodAll_nil r2
  obtain rfl : args = #[v0, v1, v2] := by cases args; simp_all
  obtain ⟨rfl, rfl⟩ := trodVars_none hV
  have k0 := h0
  have k1 := h1
  have k2 := h2
  have lt0 : ∀ x ∈ p0, x.block < W.heap.size := by obtain ⟨m, hm⟩ := k0; exact DataW.trod_lt m _ _ _ hm
  have lt1 : ∀ x ∈ p1, x.block < W.heap.size := by obtain ⟨m, hm⟩ := k1; exact DataW.trod_lt m _ _ _ hm
  have lt2 : ∀ x ∈ p2, x.block < W.heap.size := by obtain ⟨m, hm⟩ := k2; exact DataW.trod_lt m _ _ _ hm
  obtain ⟨A0, n0, c0, B0, m0, e0, X, Q, wd, rfl, hX, hQ, hN0⟩ := open_Curve_nil (hval 0 48 v0 rfl rfl) h0
  obtain ⟨A1, n1, c1, B1, m1, e1, X', Q', wd', rfl, hX', hQ', hN1⟩ := open_Curve_nil (hval 1 48 v1 rfl rfl) h1
  obtain ⟨z, rfl, rfl, rfl, wz⟩ := open_int Tryz.underlying3 (hval 2 3 v2 rfl rfl) h2
  clear hA0 hval0
  refine (sums_any hX hQ hN0 hX' hQ' hN1 (of_laid hL)).mono fun e W' ⟨he, bel⟩ => ?_
  subst he
  exact ⟨_, rfl, _, _, _, [], _, [], hW', trodAll_mk1 (shut_bool Tryz.underlying4 _), (trodAll_cons_mk (Below.trod laidOut (by kernel_rfl) (of_decide_eq_true (by kernel_rfl)) k0 bel lt0) (trodAll_cons_mk (Below.trod laidOut (by kernel_rfl) (of_decide_eq_true (by kernel_rfl)) k1 bel lt1) (trodAll_cons_mk (Below.trod laidOut (by kernel_rfl) (of_decide_eq_true (by kernel_rfl)) k2 bel lt2) trodAll_mk0))), rfl, bel.frame _, fun h => by cases h⟩

theorem sums_holds : Rows.ExactSumsSaid :=
  OpenClaim.holds_of_wide 5 Tryz.f5 rfl rfl rfl rfl rfl rfl rfl ⟨rfl, rfl, rfl, rfl, rfl⟩ rfl rfl rfl rfl rfl (by kernel_rfl) Tryz.func5 (by kernel_rfl)
    (of_decide_eq_true (by kernel_rfl)) (by unfold Func.isWrapper; rw [if_neg (of_decide_eq_false (by kernel_rfl))]; exact ⟨rfl, rfl⟩)
    (fun os started H enc _ => sums_lifted os started H enc)

theorem sums_card : Rows.ExactSumsCardSaid :=
  Claim7.holds_tied_plain_at .later [] [.data] true (true, Rows.exactSumsCard.stood.harness.2) false
    sums_holds (fun _ h => by cases h) (by kernel_rfl) (fun _ h => by cases h) exactSums_row_tie rfl ⟨rfl, rfl⟩ (by kernel_rfl) rfl
    (fun f fn hf hfn => by
      obtain rfl : f = 5 := Option.some.inj ((show Tryz.prog.funcNamed "keelblock/keelblocklaw01.ExactSums" = some 5 by kernel_rfl).symm.trans hf) |>.symm
      obtain rfl : fn = Tryz.f5 := (Option.some.inj (Tryz.func5.symm.trans hfn)).symm
      exact ⟨by kernel_rfl, fun j t ht => by
        rw [Tryz.params5] at ht
        have hm : t ∈ [48, 48, 3] := by simpa using Array.mem_of_getElem? ht
        have hall : ([48, 48, 3].all fun u => !Tryz.prog.wantsStandIn u) = true := by kernel_rfl
        exact (show Tryz.prog.wantsStandIn t = false by simpa using List.all_eq_true.1 hall t hm)⟩)
    (by kernel_rfl)
#print axioms sums_card

end Go.Proofs.YtffipjofefemiaaGreatDoor
