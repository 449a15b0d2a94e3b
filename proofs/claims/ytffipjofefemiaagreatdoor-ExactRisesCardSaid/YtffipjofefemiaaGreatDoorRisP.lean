/- ExactRises answers true for every curve and every two fractions, and leaves them as they were. No condition: arguments may share memory; the package's variable deBruijn64tab begins as the program's text lays it. -/
import Derived.Test.YtffipjofefemiaaGreatDoorFrameC
import Derived.Test.YtffipjofefemiaaGreatDoorRisA
import Derived.Test.YtffipjofefemiaaGreatDoorTie
import Derived.Test.YtffipjofefemiaaGreatDoorCards
import Derived.SevenTiedAt
namespace Go.Proofs.YtffipjofefemiaaGreatDoor
open Go.ChangeShapes Go.WideShapes Go.ChangeAt Go.RowKit Go.Joins Kb

theorem qi_of {w : World} {s1 s2 : Bool} {A1 A2 : Option Addr} {n1 c1 n2 c2 : Nat} {N D : Int} (h1 : Zi w s1 A1 n1 c1 N) (h2 : Zi w s2 A2 n2 c2 D) (l1 : Le n1 N) (l2 : Le n2 D) (k1 : n1 ≤ 12) (k2 : n2 ≤ 12) : Qi w s1 A1 n1 c1 s2 A2 n2 c2 12 (rv N D) :=
  ⟨N, D, h1, h2, rfl, l1.mono k1, l2.mono k2⟩
theorem rises_any {w : World} {A : Option Addr} {n c : Nat} {B : Option Addr} {m d : Nat} {X : Nat → Int} {Q : Nat → Rat} {wd : Nat → Bool} {y1 : Bool} {Y1 : Option Addr} {ly1 cy1 : Nat} {y2 : Bool} {Y2 : Option Addr} {ly2 cy2 : Nat} {z1 : Bool} {Z1 : Option Addr} {lz1 cz1 : Nat} {z2 : Bool} {Z2 : Option Addr} {lz2 cz2 : Nat} {a1 b1 a2 b2 : Int} (hs : Si w w.heap.size A n X) (hq : Sq0 w w.heap.size B m Q wd) (ha1 : Zi w y1 Y1 ly1 cy1 a1) (hb1 : Zi w y2 Y2 ly2 cy2 b1) (la1 : Le ly1 a1) (lb1 : Le ly2 b1) (ha2 : Zi w z1 Z1 lz1 cz1 a2) (hb2 : Zi w z2 Z2 lz2 cz2 b2) (la2 : Le lz1 a2) (lb2 : Le lz2 b2) (hT : Tb w) :
    Calls Tryz.prog 6 #[.agg #[.slice A n c, .slice B m d], .agg #[.bool y1, .slice Y1 ly1 cy1, .bool y2, .slice Y2 ly2 cy2], .agg #[.bool z1, .slice Z1 lz1 cz1, .bool z2, .slice Z2 lz2 cz2]] w fun e w' => e = .returned (.bool true) ∧ Below w.heap.size w w' := by
  by_cases hv : 60 < n ∨ (n ≤ 60 ∧ (60 < m ∨ (m ≤ 60 ∧ ∃ i, i < m ∧ wd i = true))) ∨ (n ≤ 40 ∧ 12 < n ∧ m ≤ 60 ∧ ∀ i, i < m → wd i = false)
  · exact rises_heavy hq hT hv
  · have hn : n ≤ 60 := by
      rcases Nat.lt_or_ge 60 n with h | h
      · exact absurd (.inl h) hv
      · exact h
    have hm : m ≤ 60 := by
      rcases Nat.lt_or_ge 60 m with h | h
      · exact absurd (.inr (.inl ⟨hn, .inl h⟩)) hv
      · exact h
    have hwd : ∀ i, i < m → wd i = false := fun i hi => by
      cases hw : wd i with
      | false => rfl
      | true => exact absurd (.inr (.inl ⟨hn, .inr ⟨hm, i, hi, hw⟩⟩)) hv
    have ho : 40 < n ∨ n ≤ 12 := by
      rcases Nat.lt_or_ge 40 n with h | h
      · exact .inl h
      · rcases Nat.lt_or_ge 12 n with h' | h'
        · exact absurd (.inr (.inr ⟨h, h', hm, hwd⟩)) hv
        · exact .inr h'
    by_cases hw : (12 < ly1 ∨ (ly1 ≤ 12 ∧ 12 < ly2)) ∨ ((ly1 ≤ 12 ∧ ly2 ≤ 12) ∧ (12 < lz1 ∨ (lz1 ≤ 12 ∧ 12 < lz2)))
    · exact rises_wide hq hT hn hm hwd ho hw
    · exact rises_rest hs hq hT hn hm hwd ho (qi_of ha1 hb1 la1 lb1 (by omega) (by omega)) (qi_of ha2 hb2 la2 lb2 (by omega) (by omega)) (by omega) (by omega) (by omega) (by omega)

set_option maxRecDepth 100000 in
theorem rises_lifted (os : Os) (started : os.Started) (H : Type) (enc : TypeId × Value → H) :
    ReturnsInHanded {} Tryz.checked os 6 .any (fun w args => (Rows.exactRisesSpec.pre enc Tryz.prog Tryz.f6 [] false w args ∧ laidMetH Tryz.prog tabRow w) ∧ sizedMet enc Tryz.prog Tryz.f6 (OpenSpec.ofChange Rows.exactRisesSpec) false w args)
      (Rows.exactRisesSpec.post enc Tryz.prog Tryz.f6 false true false false) := by
  refine returnsInHanded_of_change_and (C := Tryz.checked) (X := fun w _ => laidMetH Tryz.prog tabRow w) (fun _ _ _ hh h => h.of_heap hh) own started (by kernel_rfl) Tryz.func6
    (ChangeSpec.witness_shaped (enc := enc) (C := Tryz.checked) (os := os) (X := fun w _ => laidMetH Tryz.prog tabRow w) false (World.doorLaid Tryz.prog 400 os) #[.agg #[.slice none 0 0, .slice none 0 0], .agg #[.bool false, .slice none 0 0, .bool false, .slice none 0 0], .agg #[.bool false, .slice none 0 0, .bool false, .slice none 0 0]] 8 rfl (World.shaped_of_RefB (by kernel_rfl) (by kernel_rfl)) (by kernel_rfl) (by kernel_rfl) (by kernel_rfl) (door_met os _)) ?_
  intro W base args ds gs before hval0 hW _ _ hL _
  have hval : ∀ (j : Nat) t v, Tryz.f6.params[j]? = some t → args[j]? = some v → Value.okWide Tryz.prog W .any base t v := hval0
  have hW' := hW
  obtain ⟨p, q, hA0, hV, rfl, hfz, hnd⟩ := hW
  have hA : DataW.TrodAll enc Tryz.prog W 0 (fun _ => true) true Tryz.f6.params.toList args.toList ds p := hA0
  rw [Tryz.params6] at hA hval
  obtain ⟨v0, vs0, d0, ds0, p0, q0, hargs, rfl, rfl, h0, r0⟩ := trodAll_cons hA
  obtain ⟨v1, vs1, d1, ds1, p1, q1, rfl, rfl, rfl, h1, r1⟩ := trodAll_cons r0
  obtain ⟨v2, vs2, d2, ds2, p2, q2, rfl, rfl, rfl, h2, r2⟩ := trodAll_cons r1
  obtain ⟨rfl, rfl, rfl⟩ := trodAll_nil r2
  obtain rfl : args = #[v0, v1, v2] := by cases args; simp_all
  obtain ⟨rfl, rfl⟩ := trodVars_none hV
  have k0 := h0
  have k1 := h1
  have k2 := h2
  have lt0 : ∀ x ∈ p0, x.block < W.heap.size := by obtain ⟨m, hm⟩ := k0; exact DataW.trod_lt m _ _ _ hm
  have lt1 : ∀ x ∈ p1, x.block < W.heap.size := by obtain ⟨m, hm⟩ := k1; exact DataW.trod_lt m _ _ _ hm
  have lt2 : ∀ x ∈ p2, x.block < W.heap.size := by obtain ⟨m, hm⟩ := k2; exact DataW.trod_lt m _ _ _ hm
  obtain ⟨A0, n0, c0, B0, m0, e0, X, Q, wd, rfl, hX, hQ⟩ := open_Curve (hval 0 48 v0 rfl rfl) h0
  obtain ⟨a1, A1, n1, c1, b1, B1, m1, e1, x1, y1, rfl, hx1, hy1, lx1, ly1⟩ := open_Rat (hval 1 26 v1 rfl rfl) h1
  obtain ⟨a2, A2, n2, c2, b2, B2, m2, e2, x2, y2, rfl, hx2, hy2, lx2, ly2⟩ := open_Rat (hval 2 26 v2 rfl rfl) h2
  clear hA0 hval0
  refine (rises_any hX hQ hx1 hy1 lx1 ly1 hx2 hy2 lx2 ly2 (of_laid hL)).mono fun e W' ⟨he, bel⟩ => ?_
  subst he
  exact ⟨_, rfl, _, _, _, [], _, [], hW', trodAll_mk1 (shut_bool Tryz.underlying4 _), (trodAll_cons_mk (Below.trod laidOut (by kernel_rfl) (of_decide_eq_true (by kernel_rfl)) k0 bel lt0) (trodAll_cons_mk (Below.trod laidOut (by kernel_rfl) (of_decide_eq_true (by kernel_rfl)) k1 bel lt1) (trodAll_cons_mk (Below.trod laidOut (by kernel_rfl) (of_decide_eq_true (by kernel_rfl)) k2 bel lt2) trodAll_mk0))), rfl, bel.frame _, fun h => by cases h⟩

theorem rises_holds : Rows.ExactRisesSaid :=
  OpenClaim.holds_of_wide 6 Tryz.f6 rfl rfl rfl rfl rfl rfl rfl ⟨rfl, rfl, rfl, rfl, rfl⟩ rfl rfl rfl rfl rfl (by kernel_rfl) Tryz.func6 (by kernel_rfl)
    (of_decide_eq_true (by kernel_rfl)) (by unfold Func.isWrapper; rw [if_neg (of_decide_eq_false (by kernel_rfl))]; exact ⟨rfl, rfl⟩)
    (fun os started H enc _ => rises_lifted os started H enc)

theorem rises_card : Rows.ExactRisesCardSaid :=
  Claim7.holds_tied_plain_at .later [] [.data] true (true, Rows.exactRisesCard.stood.harness.2) false
    rises_holds (fun _ h => by cases h) (by kernel_rfl) (fun _ h => by cases h) exactRises_row_tie rfl ⟨rfl, rfl⟩ (by kernel_rfl) rfl
    (fun f fn hf hfn => by
      obtain rfl : f = 6 := Option.some.inj ((show Tryz.prog.funcNamed "keelblock/keelblocklaw01.ExactRises" = some 6 by kernel_rfl).symm.trans hf) |>.symm
      obtain rfl : fn = Tryz.f6 := (Option.some.inj (Tryz.func6.symm.trans hfn)).symm
      exact ⟨by kernel_rfl, fun j t ht => by
        rw [Tryz.params6] at ht
        have hm : t ∈ [48, 26, 26] := by simpa using Array.mem_of_getElem? ht
        have hall : ([48, 26, 26].all fun u => !Tryz.prog.wantsStandIn u) = true := by kernel_rfl
        exact (show Tryz.prog.wantsStandIn t = false by simpa using List.all_eq_true.1 hall t hm)⟩)
    (by kernel_rfl)
#print axioms rises_card

end Go.Proofs.YtffipjofefemiaaGreatDoor
