/- ExactFractions answers true for every two fractions and every two numbers, and leaves them as they were. No condition: arguments may share memory; the package's variable deBruijn64tab begins as the program's text lays it. -/
import Derived.Test.YtffipjofefemiaaGreatDoorFrameRm
import Derived.Test.YtffipjofefemiaaGreatDoorFrcA
import Derived.Test.YtffipjofefemiaaGreatDoorFrcL
import Derived.Test.YtffipjofefemiaaGreatDoorFrcO
import Derived.Test.YtffipjofefemiaaGreatDoorTie
import Derived.Test.YtffipjofefemiaaGreatDoorCards
import Derived.SevenTiedAt
namespace Go.Proofs.YtffipjofefemiaaGreatDoor
open Go.ChangeShapes Go.WideShapes Go.ChangeAt Go.RowKit Go.Joins Kb

theorem qi_of {w : World} {s1 s2 : Bool} {A1 A2 : Option Addr} {n1 c1 n2 c2 : Nat} {N D : Int} (h1 : Zi w s1 A1 n1 c1 N) (h2 : Zi w s2 A2 n2 c2 D) (l1 : Le n1 N) (l2 : Le n2 D) (k1 : n1 ≤ 12) (k2 : n2 ≤ 12) : Qi w s1 A1 n1 c1 s2 A2 n2 c2 12 (rv N D) :=
  ⟨N, D, h1, h2, rfl, l1.mono k1, l2.mono k2⟩
theorem frac_any (p1 : Bool) (A1 : Option Addr) (n1 c1 : Nat) (q1 : Bool) (B1 : Option Addr) (m1 d1 : Nat) (p2 : Bool) (A2 : Option Addr) (n2 c2 : Nat) (q2 : Bool) (B2 : Option Addr) (m2 d2 : Nat) (x1 y1 x2 y2 z0 z1 : Int) (w : World) (hx1 : Zi w p1 A1 n1 c1 x1) (hy1 : Zi w q1 B1 m1 d1 y1) (lx1 : Le n1 x1) (ly1 : Le m1 y1) (hx2 : Zi w p2 A2 n2 c2 x2) (hy2 : Zi w q2 B2 m2 d2 y2) (lx2 : Le n2 x2) (ly2 : Le m2 y2) (k0 : -9223372036854775808 ≤ z0 ∧ z0 ≤ 9223372036854775807) (k1 : -9223372036854775808 ≤ z1 ∧ z1 ≤ 9223372036854775807) (hT : Tb w) :
    Calls Tryz.prog 3 #[.agg #[.bool p1, .slice A1 n1 c1, .bool q1, .slice B1 m1 d1], .agg #[.bool p2, .slice A2 n2 c2, .bool q2, .slice B2 m2 d2], .agg #[.int .i64 z0, .int .i64 z1]] w fun e w' => e = .returned (.bool true) ∧ Below w.heap.size w w' := by
  by_cases hl : (12 < n1 ∨ (n1 ≤ 12 ∧ 12 < m1)) ∨ ((n1 ≤ 12 ∧ m1 ≤ 12) ∧ (12 < n2 ∨ (n2 ≤ 12 ∧ 12 < m2)))
  · exact frac_long p1 A1 n1 c1 q1 B1 m1 d1 p2 A2 n2 c2 q2 B2 m2 d2 z0 z1 w hT hl
  · exact frac_short p1 A1 n1 c1 q1 B1 m1 d1 _ p2 A2 n2 c2 q2 B2 m2 d2 _ x1 z0 z1 w (qi_of hx1 hy1 lx1 ly1 (by omega) (by omega)) (qi_of hx2 hy2 lx2 ly2 (by omega) (by omega)) hx1 (lx1.mono (by omega)) hT (by omega) (by omega) (by omega) (by omega) k0.1 k0.2 k1.1 k1.2

set_option maxRecDepth 100000 in
theorem frac_lifted (os : Os) (started : os.Started) (H : Type) (enc : TypeId × Value → H) :
    ReturnsInHanded {} Tryz.checked os 3 .any (fun w args => (Rows.exactFractionsSpec.pre enc Tryz.prog Tryz.f3 [] false w args ∧ laidMetH Tryz.prog tabRow w) ∧ sizedMet enc Tryz.prog Tryz.f3 (OpenSpec.ofChange Rows.exactFractionsSpec) false w args)
      (Rows.exactFractionsSpec.post enc Tryz.prog Tryz.f3 false true false false) := by
  refine returnsInHanded_of_change_and (C := Tryz.checked) (X := fun w _ => laidMetH Tryz.prog tabRow w) (fun _ _ _ hh h => h.of_heap hh) own started (by kernel_rfl) Tryz.func3
    (ChangeSpec.witness_shaped (enc := enc) (C := Tryz.checked) (os := os) (X := fun w _ => laidMetH Tryz.prog tabRow w) false (World.doorLaid Tryz.prog 400 os) #[.agg #[.bool false, .slice none 0 0, .bool false, .slice none 0 0], .agg #[.bool false, .slice none 0 0, .bool false, .slice none 0 0], .agg #[.int .i64 0, .int .i64 0]] 8 rfl (World.shaped_of_RefB (by kernel_rfl) (by kernel_rfl)) (by kernel_rfl) (by kernel_rfl) (by kernel_rfl) (door_met os _)) ?_
  intro W base args ds gs before hval0 hW _ _ hL _
  have hval : ∀ (j : Nat) t v, Tryz.f3.params[j]? = some t → args[j]? = some v → Value.okWide Tryz.prog W .any base t v := hval0
  have hW' := hW
  obtain ⟨p, q, hA0, hV, rfl, hfz, hnd⟩ := hW
  have hA : DataW.TrodAll enc Tryz.prog W 0 (fun _ => true) true Tryz.f3.params.toList args.toList ds p := hA0
  rw [Tryz.params3] at hA hval
  obtain ⟨v0, vs0, d0, ds0, p0, q0, hargs, rfl, rfl, h0, r0⟩ := trodAll_cons hA
  obtain ⟨v1, vs1, d1, ds1, p1, q1, rfl, rfl, rfl, h1, r1⟩ := trodAll_cons r0
  obtain ⟨v2, vs2, d2, ds2, p2, q2, rfl, rfl, rfl, h2, r2⟩ := trodAll_cons r1
  obtain ⟨rfl, rfl, rfl⟩ := trodAll_nil r2
  obtain rfl : args = #[v0, v1, v2] := by cases args; simp_all
  obtain ⟨rfl, rfl⟩ := trodVars_none hV
  have k0 := h0
  have k1 := h1
  have k2 := h2
  have lt0 : ∀ x ∈ p0, x.block < W.heap.size := by obtain ⟨m, hm⟩ := k0; exact DataW.trod_lt m _ _ _ hm
  have lt1 : ∀ x ∈ p1, x.block < W.heap.size := by obtain ⟨m, hm⟩ := k1; exact DataW.trod_lt m _ _ _ hm
  have lt2 : ∀ x ∈ p2, x.block < W.heap.size := by obtain ⟨m, hm⟩ := k2; exact DataW.trod_lt m _ _ _ hm
  obtain ⟨a0, A0, n0, c0, b0, B0, m0, e0, x0, y0, rfl, hx0, hy0, lx0, ly0⟩ := open_Rat (hval 0 26 v0 rfl rfl) h0
  obtain ⟨a1, A1, n1, c1, b1, B1, m1, e1, x1, y1, rfl, hx1, hy1, lx1, ly1⟩ := open_Rat (hval 1 26 v1 rfl rfl) h1
  obtain ⟨z0, z1, rfl, hz0, hz1⟩ := open_two (hval 2 27 v2 rfl rfl) h2
  clear hA0 hval0
  refine (frac_any a0 A0 n0 c0 b0 B0 m0 e0 a1 A1 n1 c1 b1 B1 m1 e1 x0 y0 x1 y1 z0 z1 W hx0 hy0 lx0 ly0 hx1 hy1 lx1 ly1 hz0 hz1 (of_laid hL)).mono fun e W' ⟨he, bel⟩ => ?_
  subst he
  exact ⟨_, rfl, _, _, _, [], _, [], hW', trodAll_mk1 (shut_bool Tryz.underlying4 _), (trodAll_cons_mk (Below.trod laidOut (by kernel_rfl) (of_decide_eq_true (by kernel_rfl)) k0 bel lt0) (trodAll_cons_mk (Below.trod laidOut (by kernel_rfl) (of_decide_eq_true (by kernel_rfl)) k1 bel lt1) (trodAll_cons_mk (Below.trod laidOut (by kernel_rfl) (of_decide_eq_true (by kernel_rfl)) k2 bel lt2) trodAll_mk0))), rfl, bel.frame _, fun h => by cases h⟩

theorem frac_holds : Rows.ExactFractionsSaid :=
  OpenClaim.holds_of_wide 3 Tryz.f3 rfl rfl rfl rfl rfl rfl rfl ⟨rfl, rfl, rfl, rfl, rfl⟩ rfl rfl rfl rfl rfl (by kernel_rfl) Tryz.func3 (by kernel_rfl)
    (of_decide_eq_true (by kernel_rfl)) (by unfold Func.isWrapper; rw [if_neg (of_decide_eq_false (by kernel_rfl))]; exact ⟨rfl, rfl⟩)
    (fun os started H enc _ => frac_lifted os started H enc)

theorem frac_card : Rows.ExactFractionsCardSaid :=
  Claim7.holds_tied_plain_at .later [] [.data] true (true, Rows.exactFractionsCard.stood.harness.2) false
    frac_holds (fun _ h => by cases h) (by kernel_rfl) (fun _ h => by cases h) exactFractions_row_tie rfl ⟨rfl, rfl⟩ (by kernel_rfl) rfl
    (fun f fn hf hfn => by
      obtain rfl : f = 3 := Option.some.inj ((show Tryz.prog.funcNamed "keelblock/keelblocklaw01.ExactFractions" = some 3 by kernel_rfl).symm.trans hf) |>.symm
      obtain rfl : fn = Tryz.f3 := (Option.some.inj (Tryz.func3.symm.trans hfn)).symm
      exact ⟨by kernel_rfl, fun j t ht => by
        rw [Tryz.params3] at ht
        have hm : t ∈ [26, 26, 27] := by simpa using Array.mem_of_getElem? ht
        have hall : ([26, 26, 27].all fun u => !Tryz.prog.wantsStandIn u) = true := by kernel_rfl
        exact (show Tryz.prog.wantsStandIn t = false by simpa using List.all_eq_true.1 hall t hm)⟩)
    (by kernel_rfl)
#print axioms frac_card

end Go.Proofs.YtffipjofefemiaaGreatDoor
