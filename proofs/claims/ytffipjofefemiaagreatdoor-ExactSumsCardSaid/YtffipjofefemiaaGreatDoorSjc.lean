/- The contract of the reference's Sum, the error ways, and the walk of ExactSums. -/
import Derived.Test.YtffipjofefemiaaGreatDoorSjb
import Derived.Test.YtffipjofefemiaaGreatDoorRslo
import Derived.Test.YtffipjofefemiaaGreatDoorLat
import Derived.Test.YtffipjofefemiaaGreatDoorCkq
import Derived.Test.YtffipjofefemiaaGreatDoorSja
import Derived.Test.YtffipjofefemiaaGreatDoorHvy
namespace Go.Proofs.YtffipjofefemiaaGreatDoor
open Go.RowKit Kb

/-- What stays in the reference's Sum: both curves, the curve that is made. -/
structure Rsu (w : World) (g : Nat) (B0 : Nat) (A : Option Addr) (n c : Nat) (B : Option Addr) (d : Nat) (X : Nat → Int) (Q : Nat → Rat) (B1 : Nat) (A' : Option Addr) (n' c' : Nat) (B' : Option Addr) (d' : Nat) (X' : Nat → Int) (Q' : Nat → Rat) (V1 : Option Addr) (l1 k1 : Nat) (V2 : Option Addr) (l2 k2 : Nat) (xs : List Int) (qs : List Rat) (cs : List Value) (wx : World) : Prop where
  ca : Cv wx B0 A n B n 12 X Q
  cb : Cv wx B1 A' n' B' n' 12 X' Q'
  ja : Bk wx g (.cells #[.slice A n c, .slice B n d] 48 (0, 0))
  jb : Bk wx (g + 1) (.cells #[.slice A' n' c', .slice B' n' d'] 48 (0, 0))
  jr : Bk wx (g + 1 + 1) (.cells #[.slice none 0 0, .slice none 0 0] 48 (0, 0))
  jo : Bk wx (g + 1 + 1 + 1) (.cells #[.slice V1 l1 k1, .slice V2 l2 k2] 48 (0, 0))
  co : Co wx (g + 1 + 1 + 1 + 1) (.slice V1 l1 k1) (.slice V2 l2 k2) xs qs cs
  lo : B0 ≤ g ∧ B1 ≤ g ∧ 0 < g ∧ w.heap.size ≤ g
  tb : Tb wx
  bl : Below w.heap.size w wx
section
variable {w : World} {g : Nat} {B0 : Nat} {A : Option Addr} {n c : Nat} {B : Option Addr} {d : Nat} {X : Nat → Int} {Q : Nat → Rat} {B1 : Nat} {A' : Option Addr} {n' c' : Nat} {B' : Option Addr} {d' : Nat} {X' : Nat → Int} {Q' : Nat → Rat} {V1 : Option Addr} {l1 k1 : Nat} {V2 : Option Addr} {l2 k2 : Nat} {xs : List Int} {qs : List Rat} {cs : List Value} {wx wy : World} {U : Option Addr} {lu cu : Nat} {x : Int} {t1 : Bool} {T1 : Option Addr} {lt1 ct1 : Nat} {t2 : Bool} {T2 : Option Addr} {lt2 ct2 : Nat} {q : Rat}
theorem Rsu.below (h : Rsu w g B0 A n c B d X Q B1 A' n' c' B' d' X' Q' V1 l1 k1 V2 l2 k2 xs qs cs wx) (hb : Below wx.heap.size wx wy) : Rsu w g B0 A n c B d X Q B1 A' n' c' B' d' X' Q' V1 l1 k1 V2 l2 k2 xs qs cs wy := ⟨h.ca.below hb, h.cb.below hb, h.ja.step hb, h.jb.step hb, h.jr.step hb, h.jo.step hb, h.co.below hb, h.lo, h.tb.below hb, bthen h.bl hb (Nat.le_refl _)⟩
theorem Rsu.cells (h : Rsu w g B0 A n c B d X Q B1 A' n' c' B' d' X' Q' V1 l1 k1 V2 l2 k2 xs qs cs wx) : wx.cell? ⟨g, 0, none⟩ = some (.slice A n c) ∧ wx.cell? ⟨g, 1, none⟩ = some (.slice B n d) ∧ wx.cell? ⟨g + 1, 0, none⟩ = some (.slice A' n' c') ∧ wx.cell? ⟨g + 1, 1, none⟩ = some (.slice B' n' d') ∧ wx.cell? ⟨g + 1 + 1 + 1, 0, none⟩ = some (.slice V1 l1 k1) ∧ wx.cell? ⟨g + 1 + 1 + 1, 1, none⟩ = some (.slice V2 l2 k2) :=
  ⟨h.ja.c2.1, h.ja.c2.2.1, h.jb.c2.1, h.jb.c2.2.1, h.jo.c2.1, h.jo.c2.2.1⟩
theorem Rsu.mid2 (h : Rsu w g B0 A n c B d X Q B1 A' n' c' B' d' X' Q' V1 l1 k1 V2 l2 k2 xs qs cs wx) (hg : wx.grownBy wy (Value.ownBlock (.slice V2 l2 k2))) : wy.cell? ⟨g, 0, none⟩ = some (.slice A n c) ∧ wy.cell? ⟨g, 1, none⟩ = some (.slice B n d) ∧ wy.cell? ⟨g + 1, 0, none⟩ = some (.slice A' n' c') ∧ wy.cell? ⟨g + 1, 1, none⟩ = some (.slice B' n' d') ∧ wy.cell? ⟨g + 1 + 1 + 1, 0, none⟩ = some (.slice V1 l1 k1) ∧ wy.cell? ⟨g + 1 + 1 + 1, 1, none⟩ = some (.slice V2 l2 k2) := by
  have hf : ∀ k, Value.ownBlock (.slice V2 l2 k2) = some k → (g + 1 + 1 + 1 + 1) ≤ k := fun k e => (h.co.r2.own.lt k e).1
  have hn : ∀ b, b < (g + 1 + 1 + 1 + 1) → some b ≠ Value.ownBlock (.slice V2 l2 k2) := fun b hb e => by have := hf b e.symm; omega
  have ja := h.ja.offrow hg (hn _ (by omega))
  have jb := h.jb.offrow hg (hn _ (by omega))
  have jo := h.jo.offrow hg (hn _ (by omega))
  exact ⟨ja.c2.1, ja.c2.2.1, jb.c2.1, jb.c2.2.1, jo.c2.1, jo.c2.2.1⟩
theorem Rsu.app1 (h : Rsu w g B0 A n c B d X Q B1 A' n' c' B' d' X' Q' V1 l1 k1 V2 l2 k2 xs qs cs wx) (hr : Ow wy (g + 1 + 1 + 1 + 1) 3 1 (.slice U lu cu) (xs.length + 1) (xs.map (.int .i64) ++ [.int .i64 x])) (hg : wx.grownBy wy (Value.ownBlock (.slice V1 l1 k1))) :
    Rsu w g B0 A n c B d X Q B1 A' n' c' B' d' X' Q' U lu cu V2 l2 k2 (xs ++ [x]) qs cs (wy.setCell ⟨g + 1 + 1 + 1, 0, none⟩ (.slice U lu cu)) := by
  obtain ⟨e1, e2, e3, e4⟩ := h.lo
  have hf : ∀ k, Value.ownBlock (.slice V1 l1 k1) = some k → (g + 1 + 1 + 1 + 1) ≤ k := fun k e => (h.co.r1.own.lt k e).1
  have hn : ∀ b, b < (g + 1 + 1 + 1 + 1) → some b ≠ Value.ownBlock (.slice V1 l1 k1) := fun b hb e => by have := hf b e.symm; omega
  have hsz := h.bl.size
  have hr' : Ow wy (g + 1 + 1 + 1 + 1) 3 1 (.slice U lu cu) (xs ++ [x]).length ((xs ++ [x]).map (.int .i64)) := by
    rw [List.length_append, List.map_append]; exact hr
  have jo := h.jo.offrow hg (hn _ (by omega))
  have hN := noInt_two V1 V2 l1 k1 l2 k2
  have hG : wy.grownBy (wy.setCell ⟨g + 1 + 1 + 1, 0, none⟩ (.slice U lu cu)) (some (g + 1 + 1 + 1)) := gb_set (World.grownBy.refl _ _) _ _
  have co : Co wy (g + 1 + 1 + 1 + 1) (.slice U lu cu) (.slice V2 l2 k2) (xs ++ [x]) qs cs := ⟨hr', h.co.r2.kept hg ((h.co.r2.apart h.co.r1 (by decide))), h.co.q.offrow h.co.r1.all hg⟩
  have bl := h.bl.grown hg hsz (fun k e => by have := hf k e; omega)
  exact ⟨(h.ca.offrow h.co.r1.all hg (fun k e => by have := hf k e; omega)).off jo hN hG (by omega), (h.cb.offrow h.co.r1.all hg (fun k e => by have := hf k e; omega)).off jo hN hG (by omega), (h.ja.offrow hg (hn _ (by omega))).grown hG (by omega), (h.jb.offrow hg (hn _ (by omega))).grown hG (by omega), (h.jr.offrow hg (hn _ (by omega))).grown hG (by omega), bk_two0 jo, co.offbox jo hN hG (by omega), h.lo, (h.tb.offrow hg (fun k e => by have := hf k e; omega)).grown hG (by omega), bl.grown hG bl.size (fun k hk => by injection hk with hk; omega)⟩
theorem Rsu.app2 (h : Rsu w g B0 A n c B d X Q B1 A' n' c' B' d' X' Q' V1 l1 k1 V2 l2 k2 xs qs cs wx) (hr : Ow wy (g + 1 + 1 + 1 + 1) 26 4 (.slice U lu cu) (qs.length + 1) (cs ++ [.bool t1, .slice T1 lt1 ct1, .bool t2, .slice T2 lt2 ct2])) (hq : Qf wx t1 T1 lt1 ct1 t2 T2 lt2 ct2 q) (hg : wx.grownBy wy (Value.ownBlock (.slice V2 l2 k2))) :
    Rsu w g B0 A n c B d X Q B1 A' n' c' B' d' X' Q' V1 l1 k1 U lu cu xs (qs ++ [q]) (cs ++ [.bool t1, .slice T1 lt1 ct1, .bool t2, .slice T2 lt2 ct2]) (wy.setCell ⟨g + 1 + 1 + 1, 1, none⟩ (.slice U lu cu)) := by
  obtain ⟨e1, e2, e3, e4⟩ := h.lo
  have hf : ∀ k, Value.ownBlock (.slice V2 l2 k2) = some k → (g + 1 + 1 + 1 + 1) ≤ k := fun k e => (h.co.r2.own.lt k e).1
  have hn : ∀ b, b < (g + 1 + 1 + 1 + 1) → some b ≠ Value.ownBlock (.slice V2 l2 k2) := fun b hb e => by have := hf b e.symm; omega
  have hsz := h.bl.size
  have hr' : Ow wy (g + 1 + 1 + 1 + 1) 26 4 (.slice U lu cu) (qs ++ [q]).length (cs ++ [.bool t1, .slice T1 lt1 ct1, .bool t2, .slice T2 lt2 ct2]) := by
    rw [List.length_append]; exact hr
  have jo := h.jo.offrow hg (hn _ (by omega))
  have hN := noInt_two V1 V2 l1 k1 l2 k2
  have hG : wy.grownBy (wy.setCell ⟨g + 1 + 1 + 1, 1, none⟩ (.slice U lu cu)) (some (g + 1 + 1 + 1)) := gb_set (World.grownBy.refl _ _) _ _
  have co : Co wy (g + 1 + 1 + 1 + 1) (.slice V1 l1 k1) (.slice U lu cu) xs (qs ++ [q]) (cs ++ [.bool t1, .slice T1 lt1 ct1, .bool t2, .slice T2 lt2 ct2]) := ⟨h.co.r1.kept hg ((h.co.r1.apart h.co.r2 (by decide))), hr', (h.co.q.snoc hq).offrow h.co.r2.all hg⟩
  have bl := h.bl.grown hg hsz (fun k e => by have := hf k e; omega)
  exact ⟨(h.ca.offrow h.co.r2.all hg (fun k e => by have := hf k e; omega)).off jo hN hG (by omega), (h.cb.offrow h.co.r2.all hg (fun k e => by have := hf k e; omega)).off jo hN hG (by omega), (h.ja.offrow hg (hn _ (by omega))).grown hG (by omega), (h.jb.offrow hg (hn _ (by omega))).grown hG (by omega), (h.jr.offrow hg (hn _ (by omega))).grown hG (by omega), bk_two1 jo, co.offbox jo hN hG (by omega), h.lo, (h.tb.offrow hg (fun k e => by have := hf k e; omega)).grown hG (by omega), bl.grown hG bl.size (fun k hk => by injection hk with hk; omega)⟩
end
theorem upn_upto {n : Nat} {X : Nat → Int} {y : Rat} (h : Kc.Inc n X) : Upto n X y (Kc.upn X y n) := by
  have key : ∀ m, m ≤ n → Upto m X y (Kc.upn X y m) := fun m => by
    induction m with
    | zero => intro _; exact ⟨Nat.le_refl _, fun i hi => absurd hi (Nat.not_lt_zero _), fun i _ hi => absurd hi (Nat.not_lt_zero _)⟩
    | succ m ih =>
      intro hm
      have k := ih (by omega)
      unfold Kc.upn
      by_cases hx : (X m : Rat) ≤ y
      · rw [if_pos hx]
        refine ⟨Nat.le_refl _, fun i hi => ?_, fun i h1 h2 => by omega⟩
        have := Kc.cast_le (h.le (show i ≤ m by omega) (by omega)); grind
      · rw [if_neg hx]
        refine ⟨Nat.le_succ_of_le k.le, k.lo, fun i h1 h2 => ?_⟩
        rcases Nat.lt_or_ge i m with h3 | h3
        · exact k.hi i h1 h3
        · have : i = m := by omega
          subst this; grind
  exact key n (Nat.le_refl _)

end Go.Proofs.YtffipjofefemiaaGreatDoor

namespace Go.Proofs.YtffipjofefemiaaGreatDoor
open Go.RowKit Kb

/-- What the loop says of the starts. -/
structure Ug (xs : List Int) (i : Nat) (X : Nat → Int) (k : Nat) (Y : Nat → Int) (n m : Nat) : Prop where
  u : Kc.Un xs i X k Y
  x : i < n → ∀ z, z ∈ xs → z < X i
  y : k < m → ∀ z, z ∈ xs → z < Y k
  s : xs.length ≤ i + k
theorem un_next {xs : List Int} {i k n m i2 k3 : Nat} {X Y : Nat → Int} {a : Int} (h : Ug xs i X k Y n m) (hlo : ∀ z, z ∈ xs → z < a) (hor : (i < n ∧ X i = a) ∨ (k < m ∧ Y k = a)) (hX : ∀ j, i ≤ j → j < i2 → X j = a) (hxe : i2 < n → a < X i2) (hY : ∀ j, k ≤ j → j < k3 → Y j = a) (hye : k3 < m → a < Y k3) (hi : i ≤ i2 := by omega) (hk : k ≤ k3 := by omega) : Ug (xs ++ [a]) i2 X k3 Y n m ∧ i + k < i2 + k3 := by
  have h1 : (∃ j, j < i2 ∧ X j = a) ∨ ∃ j, j < k3 ∧ Y j = a := by
    rcases hor with ⟨h1, h2⟩ | ⟨h1, h2⟩
    · left
      refine ⟨i, ?_, h2⟩
      rcases Nat.lt_or_ge i i2 with h3 | h3
      · exact h3
      · have : i2 = i := by omega
        subst this
        have := hxe h1; omega
    · right
      refine ⟨k, ?_, h2⟩
      rcases Nat.lt_or_ge k k3 with h3 | h3
      · exact h3
      · have : k3 = k := by omega
        subst this
        have := hye h1; omega
  have h2 : i + k < i2 + k3 := by
    rcases hor with ⟨g1, g2⟩ | ⟨g1, g2⟩
    · rcases Nat.lt_or_ge i i2 with h3 | h3
      · omega
      · have : i2 = i := by omega
        subst this
        have := hxe g1; omega
    · rcases Nat.lt_or_ge k k3 with h3 | h3
      · omega
      · have : k3 = k := by omega
        subst this
        have := hye g1; omega
  refine ⟨⟨h.u.step hi hk hlo h1 hX hY, fun g z hz => ?_, fun g z hz => ?_, ?_⟩, h2⟩
  · rw [List.mem_append, List.mem_singleton] at hz
    have := hxe g
    rcases hz with hz | hz
    · have := hlo z hz; omega
    · omega
  · rw [List.mem_append, List.mem_singleton] at hz
    have := hye g
    rcases hz with hz | hz
    · have := hlo z hz; omega
    · omega
  · rw [List.length_append]; have := h.s; simp; omega
set_option maxRecDepth 100000 in
set_option maxHeartbeats 80000000 in
theorem rSum {w : World} {A : Option Addr} {n c : Nat} {B : Option Addr} {d B0 : Nat} {X : Nat → Int} {Q : Nat → Rat} {A' : Option Addr} {n' c' : Nat} {B' : Option Addr} {d' B1 : Nat} {X' : Nat → Int} {Q' : Nat → Rat} (ha : Cv w B0 A n B n 12 X Q) (hb : Cv w B1 A' n' B' n' 12 X' Q') (oa : Okc n X Q) (ob : Okc n' X' Q') (hT : Tb w) :
    Calls Tryz.prog 49 #[.agg #[.slice A n c, .slice B n d], .agg #[.slice A' n' c', .slice B' n' d']] w fun e w' => ∃ V1 l1 k1 V2 l2 k2 N cs, e = .returned (.tuple #[.agg #[.slice V1 l1 k1, .slice V2 l2 k2], .int .i64 0]) ∧ Co w' N (.slice V1 l1 k1) (.slice V2 l2 k2) (Kc.bs (ix (Kc.gather n X n' X')) (smf n X Q n' X' Q') (Kc.gather n X n' X').length) (Kc.bq (smf n X Q n' X' Q') (Kc.gather n X n' X').length) cs ∧ Below w.heap.size w w' := by
  obtain ⟨i0, hi0, hz0, hz1, hz2⟩ := info_parts Tryz.infoInt
  obtain ⟨r0, hr0, hy0, hy1, hy2⟩ := info_parts Tryz.infoRat
  have b0 := three_new w (.cells #[.slice A n c, .slice B n d] 48) (.cells #[.slice A' n' c', .slice B' n' d'] 48) (.cells #[.slice none 0 0, .slice none 0 0] 48)
  have hB := (((Below.refl w.heap.size w).alloc (Nat.le_refl _) (.cells #[.slice A n c, .slice B n d] 48)).alloc (by simp) (.cells #[.slice A' n' c', .slice B' n' d'] 48)).alloc (by simp; omega) (.cells #[.slice none 0 0, .slice none 0 0] 48)
  have hB2 := bthen hB (alo (o := .cells #[.slice none 0 0, .slice none 0 0] 48)) (Nat.le_refl _)
  have jo0 := Bk.of_alloc (((w.alloc (.cells #[.slice A n c, .slice B n d] 48)).alloc (.cells #[.slice A' n' c', .slice B' n' d'] 48)).alloc (.cells #[.slice none 0 0, .slice none 0 0] 48)) (.cells #[.slice none 0 0, .slice none 0 0] 48) rfl
  have hsz : (((w.alloc (.cells #[.slice A n c, .slice B n d] 48)).alloc (.cells #[.slice A' n' c', .slice B' n' d'] 48)).alloc (.cells #[.slice none 0 0, .slice none 0 0] 48)).heap.size = w.heap.size + 1 + 1 + 1 := by simp
  rw [hsz] at jo0
  have ja0 := Bk.step (W := ((w.alloc (.cells #[.slice A n c, .slice B n d] 48)).alloc (.cells #[.slice A' n' c', .slice B' n' d'] 48)).alloc (.cells #[.slice none 0 0, .slice none 0 0] 48)) b0.1 (alo (o := .cells #[.slice none 0 0, .slice none 0 0] 48))
  have jb0 := Bk.step (W := ((w.alloc (.cells #[.slice A n c, .slice B n d] 48)).alloc (.cells #[.slice A' n' c', .slice B' n' d'] 48)).alloc (.cells #[.slice none 0 0, .slice none 0 0] 48)) b0.2.1 (alo (o := .cells #[.slice none 0 0, .slice none 0 0] 48))
  have jr0 := Bk.step (W := ((w.alloc (.cells #[.slice A n c, .slice B n d] 48)).alloc (.cells #[.slice A' n' c', .slice B' n' d'] 48)).alloc (.cells #[.slice none 0 0, .slice none 0 0] 48)) b0.2.2 (alo (o := .cells #[.slice none 0 0, .slice none 0 0] 48))
  obtain ⟨g, hg⟩ : ∃ g, w.heap.size = g := ⟨_, rfl⟩
  have hle := ha.le
  have hle' := hb.le
  have hTl := hT.2
  have hf := oa.few
  have hf' := ob.few
  have a0 := ha.below hB2
  have c0 := hb.below hB2
  have T0 := hT.below hB2
  go_enter Tryz.func49, Tryz.ntmps49
  go_upto_region 3 with fail
  rw [hg] at jo0 ja0 jb0 jr0
  have P0 : Rsu w g B0 A n c B d X Q B1 A' n' c' B' d' X' Q' none 0 0 none 0 0 [] (([] : List Int).map fun z => slx n X Q z + slx n' X' Q' z) [] ((((w.alloc (.cells #[.slice A n c, .slice B n d] 48)).alloc (.cells #[.slice A' n' c', .slice B' n' d'] 48)).alloc (.cells #[.slice none 0 0, .slice none 0 0] 48)).alloc (.cells #[.slice none 0 0, .slice none 0 0] 48)) := ⟨a0, c0, ja0, jb0, jr0, jo0, Co.nil _ _, by omega, T0, hB2⟩
  have OA := hid oa
  have OB := hid ob
  have Hi := hid hi0
  have Hr := hid hr0
  have Hg := hid hg
  clear ha hb hT hB hB2 b0 ja0 jb0 jr0 jo0 hsz a0 c0 T0 hle hle' hTl oa ob hi0 hr0
  generalize (((w.alloc (.cells #[.slice A n c, .slice B n d] 48)).alloc (.cells #[.slice A' n' c', .slice B' n' d'] 48)).alloc (.cells #[.slice none 0 0, .slice none 0 0] 48)).alloc (.cells #[.slice none 0 0, .slice none 0 0] 48) = W0 at *
  clear hg
  go_wp2
  go_loopw [7, 8] (fun iv kv wr => ∃ i k V1 l1 k1 V2 l2 k2 xs cs, i ≤ n ∧ k ≤ n' ∧ iv = .int .i64 ((i : Nat) : Int) ∧ kv = .int .i64 ((k : Nat) : Int) ∧ Hid (Ug xs i X k X' n n') ∧ Rsu w g B0 A n c B d X Q B1 A' n' c' B' d' X' Q' V1 l1 k1 V2 l2 k2 xs (xs.map fun z => slx n X Q z + slx n' X' Q' z) cs wr) (fun iv kv _ => (n - (intOf iv).toNat) + (n' - (intOf kv).toNat))
  case atStart => exact ⟨0, 0, none, 0, 0, none, 0, 0, [], [], Nat.zero_le _, Nat.zero_le _, rfl, rfl, hid ⟨Kc.Un.start, fun _ z hz => (by cases hz), fun _ z hz => (by cases hz), Nat.le_refl _⟩, P0⟩
  case round =>
    obtain ⟨i, k, V1, l1, k1, V2, l2, k2, xs, cs, hi', hk', rfl, rfl, HU, P⟩ := hrel
    clear P0
    have HL := hid (show xs.length ≤ 24 by have := HU.out.s; omega)
    obtain ⟨x0, x1, -, -⟩ := P.ja.c2
    obtain ⟨x2, x3, -, -⟩ := P.jb.c2
    by_cases hi : i < n
    · obtain ⟨ad, hAd, esa⟩ := P.ca.es hi
      have xsa := esa.s
      subst hAd
      by_cases hk : k < n'
      · obtain ⟨bd, hBd, esb⟩ := P.cb.es hk
        have xsb := esb.s
        subst hBd
        by_cases hle : X i ≤ X' k
        · have hd : decide (X i ≤ X' k) = true := decide_eq_true hle
          have hk2 : ¬ n' ≤ k := by omega
          obtain ⟨a, hae⟩ : ∃ a, X i = a := ⟨_, rfl⟩
          have Hlo := hid (show ∀ z, z ∈ xs → z < a by rw [← hae]; exact fun z hz => HU.out.x hi z hz)
          have Hai := hid (show i < n → a ≤ X i by rw [← hae]; exact fun _ => Int.le_refl _)
          have Hak := hid (show k < n' → a ≤ X' k by rw [← hae]; exact fun _ => hle)
          have Hor := hid (show (i < n ∧ X i = a) ∨ (k < n' ∧ X' k = a) by rw [← hae]; exact .inl ⟨hi, rfl⟩)
          have Hra := hid (show -10000000 ≤ a ∧ a ≤ 10000000 by rw [← hae]; exact OA.out.far i hi)
          have Hae := hid hae
          clear hae
          go_upto_region 5 with fail
          go_quiet (fail)
          go_upto_region 8 with fail
          replace P := P.below ((Below.refl wr.heap.size wr).drewN' nq)
          clear x0 x1 x2 x3
          rw [Hae.out]
          have hra := Hra.out
          clear Hae Hra
          generalize wr.drewN nq = wq at *
          clear hd hle hk2 xsa xsb esa esb
          have LX : QL 2 ((a : Int) : Rat) := whole_ql (le_of_small (by omega)) (by decide)
          have LA := hid (slx_ql (X := X) (P.ca.qls (by decide)) a)
          have LB := hid (slx_ql (X := X') (P.cb.qls (by decide)) a)
          have D2 := P.below (alo (o := .cells #[.int .i64 a] 3))
          obtain ⟨y8, y9, -, -⟩ := P.jo.c2
          clear P
          go_wp2_with (at_builtin; (refine wpList_append_ow rfl (.tmp 58) (.tmp 60) 45 rfl Tryz.underlying45 Hi.out hz0 hz1 hz2 rfl (by decide) zu_int (v := .slice V1 l1 k1) rfl D2.co.r1 (ad := ⟨wq.heap.size, 0, none⟩) (c := 1) (news := [.int .i64 a]) rfl rfl (cell_one_new _ _ _) (one_cell _ rfl) (noU_one _) (by decide) (by unfold maxLen; have := HL.out; omega) (by have := HL.out; omega) (by have := D2.jo.lt; omega) ?_))
          intro gn cap w2 hown hgrow hat hlt
          have D3 := hid (D2.app1 hown hgrow)
          obtain ⟨a0, a1, a2, a3⟩ := (D2.jo.offrow hgrow (fun e => by have := (D2.co.r1.own.lt _ e.symm).1; omega)).c2
          clear D2 hown hgrow hat hlt y8 y9
          go_upto_region 9 with fail
          have D3 := D3.out
          clear a0 a1 a2 a3
          generalize w2.setCell ⟨g + 1 + 1 + 1, 0, none⟩ (.slice (some ⟨gn, 0, none⟩) (xs.length + 1) cap) = W3 at *
          obtain ⟨U1, lu1, cu1, D3⟩ : ∃ U1 lu1 cu1, Rsu w g B0 (some ad) n c B d X Q B1 (some bd) n' c' B' d' X' Q' U1 lu1 cu1 V2 l2 k2 (xs ++ [a]) (xs.map fun z => slx n X Q z + slx n' X' Q' z) cs W3 := ⟨_, _, _, D3⟩
          have Q0 := D3.below (dr0 (W := W3))
          clear D3
          refine wp_region_late 14 (fun w' => w'.cell? ⟨g, 0, none⟩ = some (.slice (some ad) n c) ∧ w'.cell? ⟨g, 1, none⟩ = some (.slice B n d) ∧ w'.cell? ⟨g + 1, 0, none⟩ = some (.slice (some bd) n' c') ∧ w'.cell? ⟨g + 1, 1, none⟩ = some (.slice B' n' d') ∧ w'.cell? ⟨g + 1 + 1 + 1, 0, none⟩ = some (.slice U1 lu1 cu1) ∧ w'.cell? ⟨g + 1 + 1 + 1, 1, none⟩ = some (.slice V2 l2 k2)) (by kernel_rfl) (by with_reducible exact Rsu.cells Q0) (fun hHeld => ?_)
          refine wpLate_take 0 [0, 14] (v := ?_) rfl (by kernel_rfl) (by kernel_rfl) (by kernel_rfl) (fun _ _ _ h => h) (by kernel_rfl) (by kernel_rfl) (Or.inl ⟨by rfl, ?_⟩) hHeld ?_
          rotate_left
          · intro w hSw
            (try dsimp only at hSw)
            go_simp
            (try with_reducible rfl)
          (try simp only [Act.put, List.setIfInBounds_toArray, List.set_cons_zero, List.set_cons_succ])
          refine wpLate_take 1 [1, 14] (v := ?_) rfl (by kernel_rfl) (by kernel_rfl) (by kernel_rfl) (fun _ _ _ h => h) (by kernel_rfl) (by kernel_rfl) (Or.inl ⟨by rfl, ?_⟩) hHeld ?_
          rotate_left
          · intro w hSw
            (try dsimp only at hSw)
            go_simp
            (try with_reducible rfl)
          (try simp only [Act.put, List.setIfInBounds_toArray, List.set_cons_zero, List.set_cons_succ])
          refine wpLate_take 2 [2, 14] (v := ?_) rfl (by kernel_rfl) (by kernel_rfl) (by kernel_rfl) (fun _ _ _ h => h) (by kernel_rfl) (by kernel_rfl) (Or.inl ⟨by rfl, ?_⟩) hHeld ?_
          rotate_left
          · intro w hSw
            (try dsimp only at hSw)
            go_simp
            (try with_reducible rfl)
          (try simp only [Act.put, List.setIfInBounds_toArray, List.set_cons_zero, List.set_cons_succ])
          refine wpLate_take 3 [3, 14] (v := ?_) rfl (by kernel_rfl) (by kernel_rfl) (by kernel_rfl) (fun _ _ _ h => h) (by kernel_rfl) (by kernel_rfl) (Or.inl ⟨by rfl, ?_⟩) hHeld ?_
          rotate_left
          · intro w hSw
            (try dsimp only at hSw)
            go_simp
            (try with_reducible rfl)
          (try simp only [Act.put, List.setIfInBounds_toArray, List.set_cons_zero, List.set_cons_succ])
          refine wpLate_take 6 [6, 14] (v := ?_) rfl (by kernel_rfl) (by kernel_rfl) (by kernel_rfl) (fun _ _ _ h => h) (by kernel_rfl) (by kernel_rfl) (Or.inl ⟨by rfl, ?_⟩) hHeld ?_
          rotate_left
          · intro w hSw
            (try dsimp only at hSw)
            go_simp
            (try with_reducible rfl)
          (try simp only [Act.put, List.setIfInBounds_toArray, List.set_cons_zero, List.set_cons_succ])
          refine wpLate_take 7 [7, 14] (v := ?_) rfl (by kernel_rfl) (by kernel_rfl) (by kernel_rfl) (fun _ _ _ h => h) (by kernel_rfl) (by kernel_rfl) (Or.inl ⟨by rfl, ?_⟩) hHeld ?_
          rotate_left
          · intro w hSw
            (try dsimp only at hSw)
            go_simp
            (try with_reducible rfl)
          (try simp only [Act.put, List.setIfInBounds_toArray, List.set_cons_zero, List.set_cons_succ])
          refine wpLate_one 4 (by kernel_rfl) rfl (fun K hK => ?_)
          go_simp
          with_reducible refine (rQ a _ (by omega) (by omega)).mono ?_
          rintro e wv1 ⟨r1, R1, lr1, cr1, r2, R2, lr2, cr2, rfl, hq1, hb1⟩
          have Q1 := Q0.below hb1
          clear hHeld
          refine hK.out _ _ (by with_reducible exact Rsu.cells Q1) (fun hHeld => ?_)
          clear hK K
          (try simp only [Act.put, List.setIfInBounds_toArray, List.set_cons_zero, List.set_cons_succ])
          refine wpLate_one 5 (by kernel_rfl) rfl (fun K hK => ?_)
          go_simp
          with_reducible refine (rSlope Q1.ca OA.out (hq1.ri LX (by decide)) (by decide) (by decide) (by decide) Q1.tb (upn_upto OA.out.inc)).mono ?_
          rintro e wv2 ⟨o1, O1, lo1, co1, o2, O2, lo2, co2, rfl, hq2, hb2⟩
          have Q2 := Q1.below hb2
          clear hHeld
          refine hK.out _ _ (by with_reducible exact Rsu.cells Q2) (fun hHeld => ?_)
          clear hK K
          (try simp only [Act.put, List.setIfInBounds_toArray, List.set_cons_zero, List.set_cons_succ])
          refine wpLate_one 8 (by kernel_rfl) rfl (fun K hK => ?_)
          go_simp
          with_reducible refine (rQ a _ (by omega) (by omega)).mono ?_
          rintro e wv3 ⟨p1, E1, lp1, cp1, p2, E2, lp2, cp2, rfl, hq3, hb3⟩
          have Q3 := Q2.below hb3
          replace hq2 := hq2.below hb3
          clear hHeld
          refine hK.out _ _ (by with_reducible exact Rsu.cells Q3) (fun hHeld => ?_)
          clear hK K
          (try simp only [Act.put, List.setIfInBounds_toArray, List.set_cons_zero, List.set_cons_succ])
          refine wpLate_one 9 (by kernel_rfl) rfl (fun K hK => ?_)
          go_simp
          with_reducible refine (rSlope Q3.cb OB.out (hq3.ri LX (by decide)) (by decide) (by decide) (by decide) Q3.tb (upn_upto OB.out.inc)).mono ?_
          rintro e wv4 ⟨s1, S1, ls1, cs1, s2, S2, ls2, cs2, rfl, hq4, hb4⟩
          have Q4 := Q3.below hb4
          replace hq2 := hq2.below hb4
          clear hHeld
          refine hK.out _ _ (by with_reducible exact Rsu.cells Q4) (fun hHeld => ?_)
          clear hK K
          (try simp only [Act.put, List.setIfInBounds_toArray, List.set_cons_zero, List.set_cons_succ])
          refine wpLate_one 10 (by kernel_rfl) rfl (fun K hK => ?_)
          go_simp
          with_reducible refine (rAddRat (hq2.ri LA.out (by decide)) (hq4.ri LB.out (by decide)) (by decide) (by decide) (by decide) (by decide)).mono ?_
          rintro e wv5 ⟨t1, T1, lt1, ct1, t2, T2, lt2, ct2, rfl, hq, hb5⟩
          have Q5 := Q4.below hb5
          clear hHeld
          refine hK.out _ _ (by with_reducible exact Rsu.cells Q5) (fun hHeld => ?_)
          clear hK K
          (try simp only [Act.put, List.setIfInBounds_toArray, List.set_cons_zero, List.set_cons_succ])
          refine wpLate_one 11 (by kernel_rfl) rfl (fun K hK => ?_)
          go_simp
          have hnews := World.news_of_block (heap_alloc_new wv5 (.cells #[.bool t1, .slice T1 lt1 ct1, .bool t2, .slice T2 lt2 ct2] 26))
          have Q6 := Q5.below (alo (o := .cells #[.bool t1, .slice T1 lt1 ct1, .bool t2, .slice T2 lt2 ct2] 26))
          replace hq := hq.below (alo (o := .cells #[.bool t1, .slice T1 lt1 ct1, .bool t2, .slice T2 lt2 ct2] 26))
          clear hHeld
          refine hK.out _ _ (by with_reducible exact Rsu.cells Q6) (fun hHeld => ?_)
          clear hK K
          (try simp only [Act.put, List.setIfInBounds_toArray, List.set_cons_zero, List.set_cons_succ])
          refine wpLate_one 12 (by kernel_rfl) rfl (fun K hK => ?_)
          rw [if_pos (by rfl)]
          refine wp_append_ow (.tmp 64) (.tmp 74) 46 rfl Tryz.underlying46 Hr.out hy0 hy1 hy2 rfl (by decide) zu_rat (v := .slice V2 l2 k2) rfl Q6.co.r2 (ad := ⟨wv5.heap.size, 0, none⟩) (c := 1) (news := [.bool t1, .slice T1 lt1 ct1, .bool t2, .slice T2 lt2 ct2]) rfl rfl hnews (four_one _ _ _ _ _ _ _ _) (noU_four _ _ _ _ _ _ _ _) (by decide) (by rw [List.length_map]; unfold maxLen; have := HL.out; omega) (by rw [List.length_map]; have := HL.out; omega) (by have := Q6.jo.lt; omega) ?_
          intro gm cap2 w5 hown2 hgrow2 hat2 hlt2
          clear hHeld
          refine hK.out _ _ (by with_reducible exact Rsu.mid2 Q6 hgrow2) (fun hHeld => ?_)
          clear hK K
          (try simp only [Act.put, List.setIfInBounds_toArray, List.set_cons_zero, List.set_cons_succ])
          refine wpLate_take 13 [13, 14] (v := ?_) rfl (by kernel_rfl) (by kernel_rfl) (by kernel_rfl) (fun _ _ _ h => h) (by kernel_rfl) (by kernel_rfl) (Or.inl ⟨by rfl, ?_⟩) hHeld ?_
          rotate_left
          · intro w hSw
            (try dsimp only at hSw)
            go_simp
            (try with_reducible rfl)
          (try simp only [Act.put, List.setIfInBounds_toArray, List.set_cons_zero, List.set_cons_succ])
          obtain ⟨a0, a1, a2, a3⟩ := (Q6.jo.offrow hgrow2 (fun e => by have := (Q6.co.r2.own.lt _ e.symm).1; omega)).c2
          clear hHeld
          refine wpLate_last 14 rfl (by kernel_rfl) (by kernel_rfl) rfl (fun K hK => ?_)
          go_simp
          refine hK.out _ _ ?_
          clear hK K
          (try simp only [Act.put, List.setIfInBounds_toArray, List.set_cons_zero, List.set_cons_succ])
          have D4 := Q6.app2 hown2 hq hgrow2
          rw [List.length_map] at D4
          clear Q0 Q1 Q2 Q3 Q4 Q5 Q6 hq hq1 hq2 hq3 hq4 hown2 hgrow2 hat2 hlt2 hnews hb1 hb2 hb3 hb4 hb5 a0 a1 a2 a3
          obtain ⟨U2, lu2, cu2, cs2, P⟩ : ∃ U2 lu2 cu2 cs2, Rsu w g B0 (some ad) n c B d X Q B1 (some bd) n' c' B' d' X' Q' U1 lu1 cu1 U2 lu2 cu2 (xs ++ [a]) ((xs ++ [a]).map fun z => slx n X Q z + slx n' X' Q' z) cs2 (w5.setCell ⟨g + 1 + 1 + 1, 1, none⟩ (.slice (some ⟨gm, 0, none⟩) (xs.length + 1) cap2)) := ⟨_, _, _, _, by rw [List.map_append]; exact D4⟩
          clear D4
          generalize w5.setCell ⟨g + 1 + 1 + 1, 1, none⟩ (.slice (some ⟨gm, 0, none⟩) (xs.length + 1) cap2) = W5 at *
          go_wp2
          go_loopw [7] (fun iv wr => ∃ i2, i ≤ i2 ∧ i2 ≤ n ∧ iv = .int .i64 ((i2 : Nat) : Int) ∧ Hid (∀ j, i ≤ j → j < i2 → X j = a) ∧ Rsu w g B0 (some ad) n c B d X Q B1 (some bd) n' c' B' d' X' Q' U1 lu1 cu1 U2 lu2 cu2 (xs ++ [a]) ((xs ++ [a]).map fun z => slx n X Q z + slx n' X' Q' z) cs2 wr) (fun iv _ => n - (intOf iv).toNat)
          case atStart => exact ⟨i, Nat.le_refl _, hi', rfl, hid (fun j h1 h2 => by omega), P⟩
          case round =>
            obtain ⟨i2, hii, hi2, rfl, HI, P⟩ := hrel
            obtain ⟨x0, x1, -, -⟩ := P.ja.c2
            by_cases hi4 : i2 < n
            · obtain ⟨ad2, hAd, esa⟩ := P.ca.es hi4
              have xsa := esa.s
              have hfa := OA.out.far i2 hi4
              injection hAd with hAd
              subst hAd
              by_cases hd : X i2 ≤ a
              · have hd1 : decide (X i2 ≤ a) = true := decide_eq_true hd
                have HI2 := hid (show ∀ j, i ≤ j → j < i2 + 1 → X j = a from fun j h1 h2 => by
                  rcases Nat.lt_or_ge j i2 with h3 | h3
                  · exact HI.out j h1 h3
                  · have : j = i2 := by omega
                    subst this
                    have h4 := Hai.out (by omega)
                    have h5 := OA.out.inc.le h1 hi4
                    omega)
                have HP := hid P
                clear P hd esa
                go_wp2
                go_roundw
                case rel => exact ⟨i2 + 1, by omega, hi4, by go_num, HI2, HP.out⟩
                case measure => simp [intOf]; omega
              · have hd1 : decide (X i2 ≤ a) = false := decide_eq_false hd
                have HXe := hid (show i2 < n → a < X i2 from fun _ => by omega)
                clear hd esa
                go_upto_region 12 with fail
                clear hd1 xsa x0 x1
                go_loopw [8] (fun kv wr => ∃ k3, k ≤ k3 ∧ k3 ≤ n' ∧ kv = .int .i64 ((k3 : Nat) : Int) ∧ Hid (∀ j, k ≤ j → j < k3 → X' j = a) ∧ Rsu w g B0 (some ad) n c B d X Q B1 (some bd) n' c' B' d' X' Q' U1 lu1 cu1 U2 lu2 cu2 (xs ++ [a]) ((xs ++ [a]).map fun z => slx n X Q z + slx n' X' Q' z) cs2 wr) (fun kv _ => n' - (intOf kv).toNat)
                case atStart => exact ⟨k, Nat.le_refl _, hk', rfl, hid (fun j h1 h2 => by omega), P⟩
                case round =>
                  obtain ⟨k3, hkk, hk3, rfl, HK, P⟩ := hrel
                  obtain ⟨x2, x3, -, -⟩ := P.jb.c2
                  by_cases hk4 : k3 < n'
                  · obtain ⟨bd2, hBd, esb⟩ := P.cb.es hk4
                    have xsb := esb.s
                    have hfb := OB.out.far k3 hk4
                    injection hBd with hBd
                    subst hBd
                    by_cases hd : X' k3 ≤ a
                    · have hd1 : decide (X' k3 ≤ a) = true := decide_eq_true hd
                      have HK2 := hid (show ∀ j, k ≤ j → j < k3 + 1 → X' j = a from fun j h1 h2 => by
                        rcases Nat.lt_or_ge j k3 with h3 | h3
                        · exact HK.out j h1 h3
                        · have : j = k3 := by omega
                          subst this
                          have h4 := Hak.out (by omega)
                          have h5 := OB.out.inc.le h1 hk4
                          omega)
                      have HP := hid P
                      clear P hd esb
                      go_wp2
                      go_roundw
                      case rel => exact ⟨k3 + 1, by omega, hk4, by go_num, HK2, HP.out⟩
                      case measure => simp [intOf]; omega
                    · have hd1 : decide (X' k3 ≤ a) = false := decide_eq_false hd
                      have HYe := hid (show k3 < n' → a < X' k3 from fun _ => by omega)
                      clear hd esb
                      have HN := hid (un_next HU.out Hlo.out Hor.out HI.out HXe.out HK.out HYe.out)
                      have HP := hid P
                      clear P
                      go_wp2
                      go_roundw
                      case rel => exact ⟨i2, k3, U1, lu1, cu1, U2, lu2, cu2, xs ++ [a], cs2, hi2, hk3, rfl, rfl, hid HN.out.1, HP.out⟩
                      case measure => have := HN.out.2; simp [intOf]; omega
                  · have HYe := hid (show k3 < n' → a < X' k3 from fun h => absurd h hk4)
                    have HN := hid (un_next HU.out Hlo.out Hor.out HI.out HXe.out HK.out HYe.out)
                    have HP := hid P
                    clear P
                    go_wp2
                    go_roundw
                    case rel => exact ⟨i2, k3, U1, lu1, cu1, U2, lu2, cu2, xs ++ [a], cs2, hi2, hk3, rfl, rfl, hid HN.out.1, HP.out⟩
                    case measure => have := HN.out.2; simp [intOf]; omega
            · have HXe := hid (show i2 < n → a < X i2 from fun h => absurd h hi4)
              go_upto_region 12 with fail
              clear x0 x1
              go_loopw [8] (fun kv wr => ∃ k3, k ≤ k3 ∧ k3 ≤ n' ∧ kv = .int .i64 ((k3 : Nat) : Int) ∧ Hid (∀ j, k ≤ j → j < k3 → X' j = a) ∧ Rsu w g B0 (some ad) n c B d X Q B1 (some bd) n' c' B' d' X' Q' U1 lu1 cu1 U2 lu2 cu2 (xs ++ [a]) ((xs ++ [a]).map fun z => slx n X Q z + slx n' X' Q' z) cs2 wr) (fun kv _ => n' - (intOf kv).toNat)
              case atStart => exact ⟨k, Nat.le_refl _, hk', rfl, hid (fun j h1 h2 => by omega), P⟩
              case round =>
                obtain ⟨k3, hkk, hk3, rfl, HK, P⟩ := hrel
                obtain ⟨x2, x3, -, -⟩ := P.jb.c2
                by_cases hk4 : k3 < n'
                · obtain ⟨bd2, hBd, esb⟩ := P.cb.es hk4
                  have xsb := esb.s
                  have hfb := OB.out.far k3 hk4
                  injection hBd with hBd
                  subst hBd
                  by_cases hd : X' k3 ≤ a
                  · have hd1 : decide (X' k3 ≤ a) = true := decide_eq_true hd
                    have HK2 := hid (show ∀ j, k ≤ j → j < k3 + 1 → X' j = a from fun j h1 h2 => by
                      rcases Nat.lt_or_ge j k3 with h3 | h3
                      · exact HK.out j h1 h3
                      · have : j = k3 := by omega
                        subst this
                        have h4 := Hak.out (by omega)
                        have h5 := OB.out.inc.le h1 hk4
                        omega)
                    have HP := hid P
                    clear P hd esb
                    go_wp2
                    go_roundw
                    case rel => exact ⟨k3 + 1, by omega, hk4, by go_num, HK2, HP.out⟩
                    case measure => simp [intOf]; omega
                  · have hd1 : decide (X' k3 ≤ a) = false := decide_eq_false hd
                    have HYe := hid (show k3 < n' → a < X' k3 from fun _ => by omega)
                    clear hd esb
                    have HN := hid (un_next HU.out Hlo.out Hor.out HI.out HXe.out HK.out HYe.out)
                    have HP := hid P
                    clear P
                    go_wp2
                    go_roundw
                    case rel => exact ⟨i2, k3, U1, lu1, cu1, U2, lu2, cu2, xs ++ [a], cs2, hi2, hk3, rfl, rfl, hid HN.out.1, HP.out⟩
                    case measure => have := HN.out.2; simp [intOf]; omega
                · have HYe := hid (show k3 < n' → a < X' k3 from fun h => absurd h hk4)
                  have HN := hid (un_next HU.out Hlo.out Hor.out HI.out HXe.out HK.out HYe.out)
                  have HP := hid P
                  clear P
                  go_wp2
                  go_roundw
                  case rel => exact ⟨i2, k3, U1, lu1, cu1, U2, lu2, cu2, xs ++ [a], cs2, hi2, hk3, rfl, rfl, hid HN.out.1, HP.out⟩
                  case measure => have := HN.out.2; simp [intOf]; omega
        · have hd : decide (X i ≤ X' k) = false := decide_eq_false hle
          have hk2 : ¬ n' ≤ k := by omega
          obtain ⟨a, hae⟩ : ∃ a, X' k = a := ⟨_, rfl⟩
          have Hlo := hid (show ∀ z, z ∈ xs → z < a by rw [← hae]; exact fun z hz => HU.out.y hk z hz)
          have Hai := hid (show i < n → a ≤ X i by rw [← hae]; exact fun _ => by omega)
          have Hak := hid (show k < n' → a ≤ X' k by rw [← hae]; exact fun _ => Int.le_refl _)
          have Hor := hid (show (i < n ∧ X i = a) ∨ (k < n' ∧ X' k = a) by rw [← hae]; exact .inr ⟨hk, rfl⟩)
          have Hra := hid (show -10000000 ≤ a ∧ a ≤ 10000000 by rw [← hae]; exact OB.out.far k hk)
          have Hae := hid hae
          clear hae
          go_upto_region 5 with fail
          go_quiet (fail)
          go_upto_region 8 with fail
          replace P := P.below ((Below.refl wr.heap.size wr).drewN' nq)
          clear x0 x1 x2 x3
          rw [Hae.out]
          have hra := Hra.out
          clear Hae Hra
          generalize wr.drewN nq = wq at *
          clear hd hle hk2 xsa xsb esa esb
          have LX : QL 2 ((a : Int) : Rat) := whole_ql (le_of_small (by omega)) (by decide)
          have LA := hid (slx_ql (X := X) (P.ca.qls (by decide)) a)
          have LB := hid (slx_ql (X := X') (P.cb.qls (by decide)) a)
          have D2 := P.below (alo (o := .cells #[.int .i64 a] 3))
          obtain ⟨y8, y9, -, -⟩ := P.jo.c2
          clear P
          go_wp2_with (at_builtin; (refine wpList_append_ow rfl (.tmp 58) (.tmp 60) 45 rfl Tryz.underlying45 Hi.out hz0 hz1 hz2 rfl (by decide) zu_int (v := .slice V1 l1 k1) rfl D2.co.r1 (ad := ⟨wq.heap.size, 0, none⟩) (c := 1) (news := [.int .i64 a]) rfl rfl (cell_one_new _ _ _) (one_cell _ rfl) (noU_one _) (by decide) (by unfold maxLen; have := HL.out; omega) (by have := HL.out; omega) (by have := D2.jo.lt; omega) ?_))
          intro gn cap w2 hown hgrow hat hlt
          have D3 := hid (D2.app1 hown hgrow)
          obtain ⟨a0, a1, a2, a3⟩ := (D2.jo.offrow hgrow (fun e => by have := (D2.co.r1.own.lt _ e.symm).1; omega)).c2
          clear D2 hown hgrow hat hlt y8 y9
          go_upto_region 9 with fail
          have D3 := D3.out
          clear a0 a1 a2 a3
          generalize w2.setCell ⟨g + 1 + 1 + 1, 0, none⟩ (.slice (some ⟨gn, 0, none⟩) (xs.length + 1) cap) = W3 at *
          obtain ⟨U1, lu1, cu1, D3⟩ : ∃ U1 lu1 cu1, Rsu w g B0 (some ad) n c B d X Q B1 (some bd) n' c' B' d' X' Q' U1 lu1 cu1 V2 l2 k2 (xs ++ [a]) (xs.map fun z => slx n X Q z + slx n' X' Q' z) cs W3 := ⟨_, _, _, D3⟩
          have Q0 := D3.below (dr0 (W := W3))
          clear D3
          refine wp_region_late 14 (fun w' => w'.cell? ⟨g, 0, none⟩ = some (.slice (some ad) n c) ∧ w'.cell? ⟨g, 1, none⟩ = some (.slice B n d) ∧ w'.cell? ⟨g + 1, 0, none⟩ = some (.slice (some bd) n' c') ∧ w'.cell? ⟨g + 1, 1, none⟩ = some (.slice B' n' d') ∧ w'.cell? ⟨g + 1 + 1 + 1, 0, none⟩ = some (.slice U1 lu1 cu1) ∧ w'.cell? ⟨g + 1 + 1 + 1, 1, none⟩ = some (.slice V2 l2 k2)) (by kernel_rfl) (by with_reducible exact Rsu.cells Q0) (fun hHeld => ?_)
          refine wpLate_take 0 [0, 14] (v := ?_) rfl (by kernel_rfl) (by kernel_rfl) (by kernel_rfl) (fun _ _ _ h => h) (by kernel_rfl) (by kernel_rfl) (Or.inl ⟨by rfl, ?_⟩) hHeld ?_
          rotate_left
          · intro w hSw
            (try dsimp only at hSw)
            go_simp
            (try with_reducible rfl)
          (try simp only [Act.put, List.setIfInBounds_toArray, List.set_cons_zero, List.set_cons_succ])
          refine wpLate_take 1 [1, 14] (v := ?_) rfl (by kernel_rfl) (by kernel_rfl) (by kernel_rfl) (fun _ _ _ h => h) (by kernel_rfl) (by kernel_rfl) (Or.inl ⟨by rfl, ?_⟩) hHeld ?_
          rotate_left
          · intro w hSw
            (try dsimp only at hSw)
            go_simp
            (try with_reducible rfl)
          (try simp only [Act.put, List.setIfInBounds_toArray, List.set_cons_zero, List.set_cons_succ])
          refine wpLate_take 2 [2, 14] (v := ?_) rfl (by kernel_rfl) (by kernel_rfl) (by kernel_rfl) (fun _ _ _ h => h) (by kernel_rfl) (by kernel_rfl) (Or.inl ⟨by rfl, ?_⟩) hHeld ?_
          rotate_left
          · intro w hSw
            (try dsimp only at hSw)
            go_simp
            (try with_reducible rfl)
          (try simp only [Act.put, List.setIfInBounds_toArray, List.set_cons_zero, List.set_cons_succ])
          refine wpLate_take 3 [3, 14] (v := ?_) rfl (by kernel_rfl) (by kernel_rfl) (by kernel_rfl) (fun _ _ _ h => h) (by kernel_rfl) (by kernel_rfl) (Or.inl ⟨by rfl, ?_⟩) hHeld ?_
          rotate_left
          · intro w hSw
            (try dsimp only at hSw)
            go_simp
            (try with_reducible rfl)
          (try simp only [Act.put, List.setIfInBounds_toArray, List.set_cons_zero, List.set_cons_succ])
          refine wpLate_take 6 [6, 14] (v := ?_) rfl (by kernel_rfl) (by kernel_rfl) (by kernel_rfl) (fun _ _ _ h => h) (by kernel_rfl) (by kernel_rfl) (Or.inl ⟨by rfl, ?_⟩) hHeld ?_
          rotate_left
          · intro w hSw
            (try dsimp only at hSw)
            go_simp
            (try with_reducible rfl)
          (try simp only [Act.put, List.setIfInBounds_toArray, List.set_cons_zero, List.set_cons_succ])
          refine wpLate_take 7 [7, 14] (v := ?_) rfl (by kernel_rfl) (by kernel_rfl) (by kernel_rfl) (fun _ _ _ h => h) (by kernel_rfl) (by kernel_rfl) (Or.inl ⟨by rfl, ?_⟩) hHeld ?_
          rotate_left
          · intro w hSw
            (try dsimp only at hSw)
            go_simp
            (try with_reducible rfl)
          (try simp only [Act.put, List.setIfInBounds_toArray, List.set_cons_zero, List.set_cons_succ])
          refine wpLate_one 4 (by kernel_rfl) rfl (fun K hK => ?_)
          go_simp
          with_reducible refine (rQ a _ (by omega) (by omega)).mono ?_
          rintro e wv1 ⟨r1, R1, lr1, cr1, r2, R2, lr2, cr2, rfl, hq1, hb1⟩
          have Q1 := Q0.below hb1
          clear hHeld
          refine hK.out _ _ (by with_reducible exact Rsu.cells Q1) (fun hHeld => ?_)
          clear hK K
          (try simp only [Act.put, List.setIfInBounds_toArray, List.set_cons_zero, List.set_cons_succ])
          refine wpLate_one 5 (by kernel_rfl) rfl (fun K hK => ?_)
          go_simp
          with_reducible refine (rSlope Q1.ca OA.out (hq1.ri LX (by decide)) (by decide) (by decide) (by decide) Q1.tb (upn_upto OA.out.inc)).mono ?_
          rintro e wv2 ⟨o1, O1, lo1, co1, o2, O2, lo2, co2, rfl, hq2, hb2⟩
          have Q2 := Q1.below hb2
          clear hHeld
          refine hK.out _ _ (by with_reducible exact Rsu.cells Q2) (fun hHeld => ?_)
          clear hK K
          (try simp only [Act.put, List.setIfInBounds_toArray, List.set_cons_zero, List.set_cons_succ])
          refine wpLate_one 8 (by kernel_rfl) rfl (fun K hK => ?_)
          go_simp
          with_reducible refine (rQ a _ (by omega) (by omega)).mono ?_
          rintro e wv3 ⟨p1, E1, lp1, cp1, p2, E2, lp2, cp2, rfl, hq3, hb3⟩
          have Q3 := Q2.below hb3
          replace hq2 := hq2.below hb3
          clear hHeld
          refine hK.out _ _ (by with_reducible exact Rsu.cells Q3) (fun hHeld => ?_)
          clear hK K
          (try simp only [Act.put, List.setIfInBounds_toArray, List.set_cons_zero, List.set_cons_succ])
          refine wpLate_one 9 (by kernel_rfl) rfl (fun K hK => ?_)
          go_simp
          with_reducible refine (rSlope Q3.cb OB.out (hq3.ri LX (by decide)) (by decide) (by decide) (by decide) Q3.tb (upn_upto OB.out.inc)).mono ?_
          rintro e wv4 ⟨s1, S1, ls1, cs1, s2, S2, ls2, cs2, rfl, hq4, hb4⟩
          have Q4 := Q3.below hb4
          replace hq2 := hq2.below hb4
          clear hHeld
          refine hK.out _ _ (by with_reducible exact Rsu.cells Q4) (fun hHeld => ?_)
          clear hK K
          (try simp only [Act.put, List.setIfInBounds_toArray, List.set_cons_zero, List.set_cons_succ])
          refine wpLate_one 10 (by kernel_rfl) rfl (fun K hK => ?_)
          go_simp
          with_reducible refine (rAddRat (hq2.ri LA.out (by decide)) (hq4.ri LB.out (by decide)) (by decide) (by decide) (by decide) (by decide)).mono ?_
          rintro e wv5 ⟨t1, T1, lt1, ct1, t2, T2, lt2, ct2, rfl, hq, hb5⟩
          have Q5 := Q4.below hb5
          clear hHeld
          refine hK.out _ _ (by with_reducible exact Rsu.cells Q5) (fun hHeld => ?_)
          clear hK K
          (try simp only [Act.put, List.setIfInBounds_toArray, List.set_cons_zero, List.set_cons_succ])
          refine wpLate_one 11 (by kernel_rfl) rfl (fun K hK => ?_)
          go_simp
          have hnews := World.news_of_block (heap_alloc_new wv5 (.cells #[.bool t1, .slice T1 lt1 ct1, .bool t2, .slice T2 lt2 ct2] 26))
          have Q6 := Q5.below (alo (o := .cells #[.bool t1, .slice T1 lt1 ct1, .bool t2, .slice T2 lt2 ct2] 26))
          replace hq := hq.below (alo (o := .cells #[.bool t1, .slice T1 lt1 ct1, .bool t2, .slice T2 lt2 ct2] 26))
          clear hHeld
          refine hK.out _ _ (by with_reducible exact Rsu.cells Q6) (fun hHeld => ?_)
          clear hK K
          (try simp only [Act.put, List.setIfInBounds_toArray, List.set_cons_zero, List.set_cons_succ])
          refine wpLate_one 12 (by kernel_rfl) rfl (fun K hK => ?_)
          rw [if_pos (by rfl)]
          refine wp_append_ow (.tmp 64) (.tmp 74) 46 rfl Tryz.underlying46 Hr.out hy0 hy1 hy2 rfl (by decide) zu_rat (v := .slice V2 l2 k2) rfl Q6.co.r2 (ad := ⟨wv5.heap.size, 0, none⟩) (c := 1) (news := [.bool t1, .slice T1 lt1 ct1, .bool t2, .slice T2 lt2 ct2]) rfl rfl hnews (four_one _ _ _ _ _ _ _ _) (noU_four _ _ _ _ _ _ _ _) (by decide) (by rw [List.length_map]; unfold maxLen; have := HL.out; omega) (by rw [List.length_map]; have := HL.out; omega) (by have := Q6.jo.lt; omega) ?_
          intro gm cap2 w5 hown2 hgrow2 hat2 hlt2
          clear hHeld
          refine hK.out _ _ (by with_reducible exact Rsu.mid2 Q6 hgrow2) (fun hHeld => ?_)
          clear hK K
          (try simp only [Act.put, List.setIfInBounds_toArray, List.set_cons_zero, List.set_cons_succ])
          refine wpLate_take 13 [13, 14] (v := ?_) rfl (by kernel_rfl) (by kernel_rfl) (by kernel_rfl) (fun _ _ _ h => h) (by kernel_rfl) (by kernel_rfl) (Or.inl ⟨by rfl, ?_⟩) hHeld ?_
          rotate_left
          · intro w hSw
            (try dsimp only at hSw)
            go_simp
            (try with_reducible rfl)
          (try simp only [Act.put, List.setIfInBounds_toArray, List.set_cons_zero, List.set_cons_succ])
          obtain ⟨a0, a1, a2, a3⟩ := (Q6.jo.offrow hgrow2 (fun e => by have := (Q6.co.r2.own.lt _ e.symm).1; omega)).c2
          clear hHeld
          refine wpLate_last 14 rfl (by kernel_rfl) (by kernel_rfl) rfl (fun K hK => ?_)
          go_simp
          refine hK.out _ _ ?_
          clear hK K
          (try simp only [Act.put, List.setIfInBounds_toArray, List.set_cons_zero, List.set_cons_succ])
          have D4 := Q6.app2 hown2 hq hgrow2
          rw [List.length_map] at D4
          clear Q0 Q1 Q2 Q3 Q4 Q5 Q6 hq hq1 hq2 hq3 hq4 hown2 hgrow2 hat2 hlt2 hnews hb1 hb2 hb3 hb4 hb5 a0 a1 a2 a3
          obtain ⟨U2, lu2, cu2, cs2, P⟩ : ∃ U2 lu2 cu2 cs2, Rsu w g B0 (some ad) n c B d X Q B1 (some bd) n' c' B' d' X' Q' U1 lu1 cu1 U2 lu2 cu2 (xs ++ [a]) ((xs ++ [a]).map fun z => slx n X Q z + slx n' X' Q' z) cs2 (w5.setCell ⟨g + 1 + 1 + 1, 1, none⟩ (.slice (some ⟨gm, 0, none⟩) (xs.length + 1) cap2)) := ⟨_, _, _, _, by rw [List.map_append]; exact D4⟩
          clear D4
          generalize w5.setCell ⟨g + 1 + 1 + 1, 1, none⟩ (.slice (some ⟨gm, 0, none⟩) (xs.length + 1) cap2) = W5 at *
          go_wp2
          go_loopw [7] (fun iv wr => ∃ i2, i ≤ i2 ∧ i2 ≤ n ∧ iv = .int .i64 ((i2 : Nat) : Int) ∧ Hid (∀ j, i ≤ j → j < i2 → X j = a) ∧ Rsu w g B0 (some ad) n c B d X Q B1 (some bd) n' c' B' d' X' Q' U1 lu1 cu1 U2 lu2 cu2 (xs ++ [a]) ((xs ++ [a]).map fun z => slx n X Q z + slx n' X' Q' z) cs2 wr) (fun iv _ => n - (intOf iv).toNat)
          case atStart => exact ⟨i, Nat.le_refl _, hi', rfl, hid (fun j h1 h2 => by omega), P⟩
          case round =>
            obtain ⟨i2, hii, hi2, rfl, HI, P⟩ := hrel
            obtain ⟨x0, x1, -, -⟩ := P.ja.c2
            by_cases hi4 : i2 < n
            · obtain ⟨ad2, hAd, esa⟩ := P.ca.es hi4
              have xsa := esa.s
              have hfa := OA.out.far i2 hi4
              injection hAd with hAd
              subst hAd
              by_cases hd : X i2 ≤ a
              · have hd1 : decide (X i2 ≤ a) = true := decide_eq_true hd
                have HI2 := hid (show ∀ j, i ≤ j → j < i2 + 1 → X j = a from fun j h1 h2 => by
                  rcases Nat.lt_or_ge j i2 with h3 | h3
                  · exact HI.out j h1 h3
                  · have : j = i2 := by omega
                    subst this
                    have h4 := Hai.out (by omega)
                    have h5 := OA.out.inc.le h1 hi4
                    omega)
                have HP := hid P
                clear P hd esa
                go_wp2
                go_roundw
                case rel => exact ⟨i2 + 1, by omega, hi4, by go_num, HI2, HP.out⟩
                case measure => simp [intOf]; omega
              · have hd1 : decide (X i2 ≤ a) = false := decide_eq_false hd
                have HXe := hid (show i2 < n → a < X i2 from fun _ => by omega)
                clear hd esa
                go_upto_region 12 with fail
                clear hd1 xsa x0 x1
                go_loopw [8] (fun kv wr => ∃ k3, k ≤ k3 ∧ k3 ≤ n' ∧ kv = .int .i64 ((k3 : Nat) : Int) ∧ Hid (∀ j, k ≤ j → j < k3 → X' j = a) ∧ Rsu w g B0 (some ad) n c B d X Q B1 (some bd) n' c' B' d' X' Q' U1 lu1 cu1 U2 lu2 cu2 (xs ++ [a]) ((xs ++ [a]).map fun z => slx n X Q z + slx n' X' Q' z) cs2 wr) (fun kv _ => n' - (intOf kv).toNat)
                case atStart => exact ⟨k, Nat.le_refl _, hk', rfl, hid (fun j h1 h2 => by omega), P⟩
                case round =>
                  obtain ⟨k3, hkk, hk3, rfl, HK, P⟩ := hrel
                  obtain ⟨x2, x3, -, -⟩ := P.jb.c2
                  by_cases hk4 : k3 < n'
                  · obtain ⟨bd2, hBd, esb⟩ := P.cb.es hk4
                    have xsb := esb.s
                    have hfb := OB.out.far k3 hk4
                    injection hBd with hBd
                    subst hBd
                    by_cases hd : X' k3 ≤ a
                    · have hd1 : decide (X' k3 ≤ a) = true := decide_eq_true hd
                      have HK2 := hid (show ∀ j, k ≤ j → j < k3 + 1 → X' j = a from fun j h1 h2 => by
                        rcases Nat.lt_or_ge j k3 with h3 | h3
                        · exact HK.out j h1 h3
                        · have : j = k3 := by omega
                          subst this
                          have h4 := Hak.out (by omega)
                          have h5 := OB.out.inc.le h1 hk4
                          omega)
                      have HP := hid P
                      clear P hd esb
                      go_wp2
                      go_roundw
                      case rel => exact ⟨k3 + 1, by omega, hk4, by go_num, HK2, HP.out⟩
                      case measure => simp [intOf]; omega
                    · have hd1 : decide (X' k3 ≤ a) = false := decide_eq_false hd
                      have HYe := hid (show k3 < n' → a < X' k3 from fun _ => by omega)
                      clear hd esb
                      have HN := hid (un_next HU.out Hlo.out Hor.out HI.out HXe.out HK.out HYe.out)
                      have HP := hid P
                      clear P
                      go_wp2
                      go_roundw
                      case rel => exact ⟨i2, k3, U1, lu1, cu1, U2, lu2, cu2, xs ++ [a], cs2, hi2, hk3, rfl, rfl, hid HN.out.1, HP.out⟩
                      case measure => have := HN.out.2; simp [intOf]; omega
                  · have HYe := hid (show k3 < n' → a < X' k3 from fun h => absurd h hk4)
                    have HN := hid (un_next HU.out Hlo.out Hor.out HI.out HXe.out HK.out HYe.out)
                    have HP := hid P
                    clear P
                    go_wp2
                    go_roundw
                    case rel => exact ⟨i2, k3, U1, lu1, cu1, U2, lu2, cu2, xs ++ [a], cs2, hi2, hk3, rfl, rfl, hid HN.out.1, HP.out⟩
                    case measure => have := HN.out.2; simp [intOf]; omega
            · have HXe := hid (show i2 < n → a < X i2 from fun h => absurd h hi4)
              go_upto_region 12 with fail
              clear x0 x1
              go_loopw [8] (fun kv wr => ∃ k3, k ≤ k3 ∧ k3 ≤ n' ∧ kv = .int .i64 ((k3 : Nat) : Int) ∧ Hid (∀ j, k ≤ j → j < k3 → X' j = a) ∧ Rsu w g B0 (some ad) n c B d X Q B1 (some bd) n' c' B' d' X' Q' U1 lu1 cu1 U2 lu2 cu2 (xs ++ [a]) ((xs ++ [a]).map fun z => slx n X Q z + slx n' X' Q' z) cs2 wr) (fun kv _ => n' - (intOf kv).toNat)
              case atStart => exact ⟨k, Nat.le_refl _, hk', rfl, hid (fun j h1 h2 => by omega), P⟩
              case round =>
                obtain ⟨k3, hkk, hk3, rfl, HK, P⟩ := hrel
                obtain ⟨x2, x3, -, -⟩ := P.jb.c2
                by_cases hk4 : k3 < n'
                · obtain ⟨bd2, hBd, esb⟩ := P.cb.es hk4
                  have xsb := esb.s
                  have hfb := OB.out.far k3 hk4
                  injection hBd with hBd
                  subst hBd
                  by_cases hd : X' k3 ≤ a
                  · have hd1 : decide (X' k3 ≤ a) = true := decide_eq_true hd
                    have HK2 := hid (show ∀ j, k ≤ j → j < k3 + 1 → X' j = a from fun j h1 h2 => by
                      rcases Nat.lt_or_ge j k3 with h3 | h3
                      · exact HK.out j h1 h3
                      · have : j = k3 := by omega
                        subst this
                        have h4 := Hak.out (by omega)
                        have h5 := OB.out.inc.le h1 hk4
                        omega)
                    have HP := hid P
                    clear P hd esb
                    go_wp2
                    go_roundw
                    case rel => exact ⟨k3 + 1, by omega, hk4, by go_num, HK2, HP.out⟩
                    case measure => simp [intOf]; omega
                  · have hd1 : decide (X' k3 ≤ a) = false := decide_eq_false hd
                    have HYe := hid (show k3 < n' → a < X' k3 from fun _ => by omega)
                    clear hd esb
                    have HN := hid (un_next HU.out Hlo.out Hor.out HI.out HXe.out HK.out HYe.out)
                    have HP := hid P
                    clear P
                    go_wp2
                    go_roundw
                    case rel => exact ⟨i2, k3, U1, lu1, cu1, U2, lu2, cu2, xs ++ [a], cs2, hi2, hk3, rfl, rfl, hid HN.out.1, HP.out⟩
                    case measure => have := HN.out.2; simp [intOf]; omega
                · have HYe := hid (show k3 < n' → a < X' k3 from fun h => absurd h hk4)
                  have HN := hid (un_next HU.out Hlo.out Hor.out HI.out HXe.out HK.out HYe.out)
                  have HP := hid P
                  clear P
                  go_wp2
                  go_roundw
                  case rel => exact ⟨i2, k3, U1, lu1, cu1, U2, lu2, cu2, xs ++ [a], cs2, hi2, hk3, rfl, rfl, hid HN.out.1, HP.out⟩
                  case measure => have := HN.out.2; simp [intOf]; omega
      · have hk2 : n' ≤ k := by omega
        obtain ⟨a, hae⟩ : ∃ a, X i = a := ⟨_, rfl⟩
        have Hlo := hid (show ∀ z, z ∈ xs → z < a by rw [← hae]; exact fun z hz => HU.out.x hi z hz)
        have Hai := hid (show i < n → a ≤ X i by rw [← hae]; exact fun _ => Int.le_refl _)
        have Hak := hid (show k < n' → a ≤ X' k by rw [← hae]; exact fun h => absurd h hk)
        have Hor := hid (show (i < n ∧ X i = a) ∨ (k < n' ∧ X' k = a) by rw [← hae]; exact .inl ⟨hi, rfl⟩)
        have Hra := hid (show -10000000 ≤ a ∧ a ≤ 10000000 by rw [← hae]; exact OA.out.far i hi)
        have Hae := hid hae
        clear hae
        go_upto_region 5 with fail
        go_quiet (fail)
        go_upto_region 8 with fail
        replace P := P.below ((Below.refl wr.heap.size wr).drewN' nq)
        clear x0 x1 x2 x3
        rw [Hae.out]
        have hra := Hra.out
        clear Hae Hra
        generalize wr.drewN nq = wq at *
        clear hk2 xsa esa
        have LX : QL 2 ((a : Int) : Rat) := whole_ql (le_of_small (by omega)) (by decide)
        have LA := hid (slx_ql (X := X) (P.ca.qls (by decide)) a)
        have LB := hid (slx_ql (X := X') (P.cb.qls (by decide)) a)
        have D2 := P.below (alo (o := .cells #[.int .i64 a] 3))
        obtain ⟨y8, y9, -, -⟩ := P.jo.c2
        clear P
        go_wp2_with (at_builtin; (refine wpList_append_ow rfl (.tmp 58) (.tmp 60) 45 rfl Tryz.underlying45 Hi.out hz0 hz1 hz2 rfl (by decide) zu_int (v := .slice V1 l1 k1) rfl D2.co.r1 (ad := ⟨wq.heap.size, 0, none⟩) (c := 1) (news := [.int .i64 a]) rfl rfl (cell_one_new _ _ _) (one_cell _ rfl) (noU_one _) (by decide) (by unfold maxLen; have := HL.out; omega) (by have := HL.out; omega) (by have := D2.jo.lt; omega) ?_))
        intro gn cap w2 hown hgrow hat hlt
        have D3 := hid (D2.app1 hown hgrow)
        obtain ⟨a0, a1, a2, a3⟩ := (D2.jo.offrow hgrow (fun e => by have := (D2.co.r1.own.lt _ e.symm).1; omega)).c2
        clear D2 hown hgrow hat hlt y8 y9
        go_upto_region 9 with fail
        have D3 := D3.out
        clear a0 a1 a2 a3
        generalize w2.setCell ⟨g + 1 + 1 + 1, 0, none⟩ (.slice (some ⟨gn, 0, none⟩) (xs.length + 1) cap) = W3 at *
        obtain ⟨U1, lu1, cu1, D3⟩ : ∃ U1 lu1 cu1, Rsu w g B0 (some ad) n c B d X Q B1 A' n' c' B' d' X' Q' U1 lu1 cu1 V2 l2 k2 (xs ++ [a]) (xs.map fun z => slx n X Q z + slx n' X' Q' z) cs W3 := ⟨_, _, _, D3⟩
        have Q0 := D3.below (dr0 (W := W3))
        clear D3
        refine wp_region_late 14 (fun w' => w'.cell? ⟨g, 0, none⟩ = some (.slice (some ad) n c) ∧ w'.cell? ⟨g, 1, none⟩ = some (.slice B n d) ∧ w'.cell? ⟨g + 1, 0, none⟩ = some (.slice A' n' c') ∧ w'.cell? ⟨g + 1, 1, none⟩ = some (.slice B' n' d') ∧ w'.cell? ⟨g + 1 + 1 + 1, 0, none⟩ = some (.slice U1 lu1 cu1) ∧ w'.cell? ⟨g + 1 + 1 + 1, 1, none⟩ = some (.slice V2 l2 k2)) (by kernel_rfl) (by with_reducible exact Rsu.cells Q0) (fun hHeld => ?_)
        refine wpLate_take 0 [0, 14] (v := ?_) rfl (by kernel_rfl) (by kernel_rfl) (by kernel_rfl) (fun _ _ _ h => h) (by kernel_rfl) (by kernel_rfl) (Or.inl ⟨by rfl, ?_⟩) hHeld ?_
        rotate_left
        · intro w hSw
          (try dsimp only at hSw)
          go_simp
          (try with_reducible rfl)
        (try simp only [Act.put, List.setIfInBounds_toArray, List.set_cons_zero, List.set_cons_succ])
        refine wpLate_take 1 [1, 14] (v := ?_) rfl (by kernel_rfl) (by kernel_rfl) (by kernel_rfl) (fun _ _ _ h => h) (by kernel_rfl) (by kernel_rfl) (Or.inl ⟨by rfl, ?_⟩) hHeld ?_
        rotate_left
        · intro w hSw
          (try dsimp only at hSw)
          go_simp
          (try with_reducible rfl)
        (try simp only [Act.put, List.setIfInBounds_toArray, List.set_cons_zero, List.set_cons_succ])
        refine wpLate_take 2 [2, 14] (v := ?_) rfl (by kernel_rfl) (by kernel_rfl) (by kernel_rfl) (fun _ _ _ h => h) (by kernel_rfl) (by kernel_rfl) (Or.inl ⟨by rfl, ?_⟩) hHeld ?_
        rotate_left
        · intro w hSw
          (try dsimp only at hSw)
          go_simp
          (try with_reducible rfl)
        (try simp only [Act.put, List.setIfInBounds_toArray, List.set_cons_zero, List.set_cons_succ])
        refine wpLate_take 3 [3, 14] (v := ?_) rfl (by kernel_rfl) (by kernel_rfl) (by kernel_rfl) (fun _ _ _ h => h) (by kernel_rfl) (by kernel_rfl) (Or.inl ⟨by rfl, ?_⟩) hHeld ?_
        rotate_left
        · intro w hSw
          (try dsimp only at hSw)
          go_simp
          (try with_reducible rfl)
        (try simp only [Act.put, List.setIfInBounds_toArray, List.set_cons_zero, List.set_cons_succ])
        refine wpLate_take 6 [6, 14] (v := ?_) rfl (by kernel_rfl) (by kernel_rfl) (by kernel_rfl) (fun _ _ _ h => h) (by kernel_rfl) (by kernel_rfl) (Or.inl ⟨by rfl, ?_⟩) hHeld ?_
        rotate_left
        · intro w hSw
          (try dsimp only at hSw)
          go_simp
          (try with_reducible rfl)
        (try simp only [Act.put, List.setIfInBounds_toArray, List.set_cons_zero, List.set_cons_succ])
        refine wpLate_take 7 [7, 14] (v := ?_) rfl (by kernel_rfl) (by kernel_rfl) (by kernel_rfl) (fun _ _ _ h => h) (by kernel_rfl) (by kernel_rfl) (Or.inl ⟨by rfl, ?_⟩) hHeld ?_
        rotate_left
        · intro w hSw
          (try dsimp only at hSw)
          go_simp
          (try with_reducible rfl)
        (try simp only [Act.put, List.setIfInBounds_toArray, List.set_cons_zero, List.set_cons_succ])
        refine wpLate_one 4 (by kernel_rfl) rfl (fun K hK => ?_)
        go_simp
        with_reducible refine (rQ a _ (by omega) (by omega)).mono ?_
        rintro e wv1 ⟨r1, R1, lr1, cr1, r2, R2, lr2, cr2, rfl, hq1, hb1⟩
        have Q1 := Q0.below hb1
        clear hHeld
        refine hK.out _ _ (by with_reducible exact Rsu.cells Q1) (fun hHeld => ?_)
        clear hK K
        (try simp only [Act.put, List.setIfInBounds_toArray, List.set_cons_zero, List.set_cons_succ])
        refine wpLate_one 5 (by kernel_rfl) rfl (fun K hK => ?_)
        go_simp
        with_reducible refine (rSlope Q1.ca OA.out (hq1.ri LX (by decide)) (by decide) (by decide) (by decide) Q1.tb (upn_upto OA.out.inc)).mono ?_
        rintro e wv2 ⟨o1, O1, lo1, co1, o2, O2, lo2, co2, rfl, hq2, hb2⟩
        have Q2 := Q1.below hb2
        clear hHeld
        refine hK.out _ _ (by with_reducible exact Rsu.cells Q2) (fun hHeld => ?_)
        clear hK K
        (try simp only [Act.put, List.setIfInBounds_toArray, List.set_cons_zero, List.set_cons_succ])
        refine wpLate_one 8 (by kernel_rfl) rfl (fun K hK => ?_)
        go_simp
        with_reducible refine (rQ a _ (by omega) (by omega)).mono ?_
        rintro e wv3 ⟨p1, E1, lp1, cp1, p2, E2, lp2, cp2, rfl, hq3, hb3⟩
        have Q3 := Q2.below hb3
        replace hq2 := hq2.below hb3
        clear hHeld
        refine hK.out _ _ (by with_reducible exact Rsu.cells Q3) (fun hHeld => ?_)
        clear hK K
        (try simp only [Act.put, List.setIfInBounds_toArray, List.set_cons_zero, List.set_cons_succ])
        refine wpLate_one 9 (by kernel_rfl) rfl (fun K hK => ?_)
        go_simp
        with_reducible refine (rSlope Q3.cb OB.out (hq3.ri LX (by decide)) (by decide) (by decide) (by decide) Q3.tb (upn_upto OB.out.inc)).mono ?_
        rintro e wv4 ⟨s1, S1, ls1, cs1, s2, S2, ls2, cs2, rfl, hq4, hb4⟩
        have Q4 := Q3.below hb4
        replace hq2 := hq2.below hb4
        clear hHeld
        refine hK.out _ _ (by with_reducible exact Rsu.cells Q4) (fun hHeld => ?_)
        clear hK K
        (try simp only [Act.put, List.setIfInBounds_toArray, List.set_cons_zero, List.set_cons_succ])
        refine wpLate_one 10 (by kernel_rfl) rfl (fun K hK => ?_)
        go_simp
        with_reducible refine (rAddRat (hq2.ri LA.out (by decide)) (hq4.ri LB.out (by decide)) (by decide) (by decide) (by decide) (by decide)).mono ?_
        rintro e wv5 ⟨t1, T1, lt1, ct1, t2, T2, lt2, ct2, rfl, hq, hb5⟩
        have Q5 := Q4.below hb5
        clear hHeld
        refine hK.out _ _ (by with_reducible exact Rsu.cells Q5) (fun hHeld => ?_)
        clear hK K
        (try simp only [Act.put, List.setIfInBounds_toArray, List.set_cons_zero, List.set_cons_succ])
        refine wpLate_one 11 (by kernel_rfl) rfl (fun K hK => ?_)
        go_simp
        have hnews := World.news_of_block (heap_alloc_new wv5 (.cells #[.bool t1, .slice T1 lt1 ct1, .bool t2, .slice T2 lt2 ct2] 26))
        have Q6 := Q5.below (alo (o := .cells #[.bool t1, .slice T1 lt1 ct1, .bool t2, .slice T2 lt2 ct2] 26))
        replace hq := hq.below (alo (o := .cells #[.bool t1, .slice T1 lt1 ct1, .bool t2, .slice T2 lt2 ct2] 26))
        clear hHeld
        refine hK.out _ _ (by with_reducible exact Rsu.cells Q6) (fun hHeld => ?_)
        clear hK K
        (try simp only [Act.put, List.setIfInBounds_toArray, List.set_cons_zero, List.set_cons_succ])
        refine wpLate_one 12 (by kernel_rfl) rfl (fun K hK => ?_)
        rw [if_pos (by rfl)]
        refine wp_append_ow (.tmp 64) (.tmp 74) 46 rfl Tryz.underlying46 Hr.out hy0 hy1 hy2 rfl (by decide) zu_rat (v := .slice V2 l2 k2) rfl Q6.co.r2 (ad := ⟨wv5.heap.size, 0, none⟩) (c := 1) (news := [.bool t1, .slice T1 lt1 ct1, .bool t2, .slice T2 lt2 ct2]) rfl rfl hnews (four_one _ _ _ _ _ _ _ _) (noU_four _ _ _ _ _ _ _ _) (by decide) (by rw [List.length_map]; unfold maxLen; have := HL.out; omega) (by rw [List.length_map]; have := HL.out; omega) (by have := Q6.jo.lt; omega) ?_
        intro gm cap2 w5 hown2 hgrow2 hat2 hlt2
        clear hHeld
        refine hK.out _ _ (by with_reducible exact Rsu.mid2 Q6 hgrow2) (fun hHeld => ?_)
        clear hK K
        (try simp only [Act.put, List.setIfInBounds_toArray, List.set_cons_zero, List.set_cons_succ])
        refine wpLate_take 13 [13, 14] (v := ?_) rfl (by kernel_rfl) (by kernel_rfl) (by kernel_rfl) (fun _ _ _ h => h) (by kernel_rfl) (by kernel_rfl) (Or.inl ⟨by rfl, ?_⟩) hHeld ?_
        rotate_left
        · intro w hSw
          (try dsimp only at hSw)
          go_simp
          (try with_reducible rfl)
        (try simp only [Act.put, List.setIfInBounds_toArray, List.set_cons_zero, List.set_cons_succ])
        obtain ⟨a0, a1, a2, a3⟩ := (Q6.jo.offrow hgrow2 (fun e => by have := (Q6.co.r2.own.lt _ e.symm).1; omega)).c2
        clear hHeld
        refine wpLate_last 14 rfl (by kernel_rfl) (by kernel_rfl) rfl (fun K hK => ?_)
        go_simp
        refine hK.out _ _ ?_
        clear hK K
        (try simp only [Act.put, List.setIfInBounds_toArray, List.set_cons_zero, List.set_cons_succ])
        have D4 := Q6.app2 hown2 hq hgrow2
        rw [List.length_map] at D4
        clear Q0 Q1 Q2 Q3 Q4 Q5 Q6 hq hq1 hq2 hq3 hq4 hown2 hgrow2 hat2 hlt2 hnews hb1 hb2 hb3 hb4 hb5 a0 a1 a2 a3
        obtain ⟨U2, lu2, cu2, cs2, P⟩ : ∃ U2 lu2 cu2 cs2, Rsu w g B0 (some ad) n c B d X Q B1 A' n' c' B' d' X' Q' U1 lu1 cu1 U2 lu2 cu2 (xs ++ [a]) ((xs ++ [a]).map fun z => slx n X Q z + slx n' X' Q' z) cs2 (w5.setCell ⟨g + 1 + 1 + 1, 1, none⟩ (.slice (some ⟨gm, 0, none⟩) (xs.length + 1) cap2)) := ⟨_, _, _, _, by rw [List.map_append]; exact D4⟩
        clear D4
        generalize w5.setCell ⟨g + 1 + 1 + 1, 1, none⟩ (.slice (some ⟨gm, 0, none⟩) (xs.length + 1) cap2) = W5 at *
        go_wp2
        go_loopw [7] (fun iv wr => ∃ i2, i ≤ i2 ∧ i2 ≤ n ∧ iv = .int .i64 ((i2 : Nat) : Int) ∧ Hid (∀ j, i ≤ j → j < i2 → X j = a) ∧ Rsu w g B0 (some ad) n c B d X Q B1 A' n' c' B' d' X' Q' U1 lu1 cu1 U2 lu2 cu2 (xs ++ [a]) ((xs ++ [a]).map fun z => slx n X Q z + slx n' X' Q' z) cs2 wr) (fun iv _ => n - (intOf iv).toNat)
        case atStart => exact ⟨i, Nat.le_refl _, hi', rfl, hid (fun j h1 h2 => by omega), P⟩
        case round =>
          obtain ⟨i2, hii, hi2, rfl, HI, P⟩ := hrel
          obtain ⟨x0, x1, -, -⟩ := P.ja.c2
          by_cases hi4 : i2 < n
          · obtain ⟨ad2, hAd, esa⟩ := P.ca.es hi4
            have xsa := esa.s
            have hfa := OA.out.far i2 hi4
            injection hAd with hAd
            subst hAd
            by_cases hd : X i2 ≤ a
            · have hd1 : decide (X i2 ≤ a) = true := decide_eq_true hd
              have HI2 := hid (show ∀ j, i ≤ j → j < i2 + 1 → X j = a from fun j h1 h2 => by
                rcases Nat.lt_or_ge j i2 with h3 | h3
                · exact HI.out j h1 h3
                · have : j = i2 := by omega
                  subst this
                  have h4 := Hai.out (by omega)
                  have h5 := OA.out.inc.le h1 hi4
                  omega)
              have HP := hid P
              clear P hd esa
              go_wp2
              go_roundw
              case rel => exact ⟨i2 + 1, by omega, hi4, by go_num, HI2, HP.out⟩
              case measure => simp [intOf]; omega
            · have hd1 : decide (X i2 ≤ a) = false := decide_eq_false hd
              have HXe := hid (show i2 < n → a < X i2 from fun _ => by omega)
              clear hd esa
              go_upto_region 12 with fail
              clear hd1 xsa x0 x1
              go_loopw [8] (fun kv wr => ∃ k3, k ≤ k3 ∧ k3 ≤ n' ∧ kv = .int .i64 ((k3 : Nat) : Int) ∧ Hid (∀ j, k ≤ j → j < k3 → X' j = a) ∧ Rsu w g B0 (some ad) n c B d X Q B1 A' n' c' B' d' X' Q' U1 lu1 cu1 U2 lu2 cu2 (xs ++ [a]) ((xs ++ [a]).map fun z => slx n X Q z + slx n' X' Q' z) cs2 wr) (fun kv _ => n' - (intOf kv).toNat)
              case atStart => exact ⟨k, Nat.le_refl _, hk', rfl, hid (fun j h1 h2 => by omega), P⟩
              case round =>
                obtain ⟨k3, hkk, hk3, rfl, HK, P⟩ := hrel
                obtain ⟨x2, x3, -, -⟩ := P.jb.c2
                by_cases hk4 : k3 < n'
                · exact absurd hk4 (by omega)
                · have HYe := hid (show k3 < n' → a < X' k3 from fun h => absurd h hk4)
                  have HN := hid (un_next HU.out Hlo.out Hor.out HI.out HXe.out HK.out HYe.out)
                  have HP := hid P
                  clear P
                  go_wp2
                  go_roundw
                  case rel => exact ⟨i2, k3, U1, lu1, cu1, U2, lu2, cu2, xs ++ [a], cs2, hi2, hk3, rfl, rfl, hid HN.out.1, HP.out⟩
                  case measure => have := HN.out.2; simp [intOf]; omega
          · have HXe := hid (show i2 < n → a < X i2 from fun h => absurd h hi4)
            go_upto_region 12 with fail
            clear x0 x1
            go_loopw [8] (fun kv wr => ∃ k3, k ≤ k3 ∧ k3 ≤ n' ∧ kv = .int .i64 ((k3 : Nat) : Int) ∧ Hid (∀ j, k ≤ j → j < k3 → X' j = a) ∧ Rsu w g B0 (some ad) n c B d X Q B1 A' n' c' B' d' X' Q' U1 lu1 cu1 U2 lu2 cu2 (xs ++ [a]) ((xs ++ [a]).map fun z => slx n X Q z + slx n' X' Q' z) cs2 wr) (fun kv _ => n' - (intOf kv).toNat)
            case atStart => exact ⟨k, Nat.le_refl _, hk', rfl, hid (fun j h1 h2 => by omega), P⟩
            case round =>
              obtain ⟨k3, hkk, hk3, rfl, HK, P⟩ := hrel
              obtain ⟨x2, x3, -, -⟩ := P.jb.c2
              by_cases hk4 : k3 < n'
              · exact absurd hk4 (by omega)
              · have HYe := hid (show k3 < n' → a < X' k3 from fun h => absurd h hk4)
                have HN := hid (un_next HU.out Hlo.out Hor.out HI.out HXe.out HK.out HYe.out)
                have HP := hid P
                clear P
                go_wp2
                go_roundw
                case rel => exact ⟨i2, k3, U1, lu1, cu1, U2, lu2, cu2, xs ++ [a], cs2, hi2, hk3, rfl, rfl, hid HN.out.1, HP.out⟩
                case measure => have := HN.out.2; simp [intOf]; omega
    · by_cases hk : k < n'
      · obtain ⟨bd, hBd, esb⟩ := P.cb.es hk
        have xsb := esb.s
        have hk2 : ¬ n' ≤ k := by omega
        subst hBd
        obtain ⟨a, hae⟩ : ∃ a, X' k = a := ⟨_, rfl⟩
        have Hlo := hid (show ∀ z, z ∈ xs → z < a by rw [← hae]; exact fun z hz => HU.out.y hk z hz)
        have Hai := hid (show i < n → a ≤ X i by rw [← hae]; exact fun h => absurd h hi)
        have Hak := hid (show k < n' → a ≤ X' k by rw [← hae]; exact fun _ => Int.le_refl _)
        have Hor := hid (show (i < n ∧ X i = a) ∨ (k < n' ∧ X' k = a) by rw [← hae]; exact .inr ⟨hk, rfl⟩)
        have Hra := hid (show -10000000 ≤ a ∧ a ≤ 10000000 by rw [← hae]; exact OB.out.far k hk)
        have Hae := hid hae
        clear hae
        go_upto_region 5 with fail
        go_quiet (fail)
        go_upto_region 8 with fail
        replace P := P.below ((Below.refl wr.heap.size wr).drewN' nq)
        clear x0 x1 x2 x3
        rw [Hae.out]
        have hra := Hra.out
        clear Hae Hra
        generalize wr.drewN nq = wq at *
        clear hk2 xsb esb
        have LX : QL 2 ((a : Int) : Rat) := whole_ql (le_of_small (by omega)) (by decide)
        have LA := hid (slx_ql (X := X) (P.ca.qls (by decide)) a)
        have LB := hid (slx_ql (X := X') (P.cb.qls (by decide)) a)
        have D2 := P.below (alo (o := .cells #[.int .i64 a] 3))
        obtain ⟨y8, y9, -, -⟩ := P.jo.c2
        clear P
        go_wp2_with (at_builtin; (refine wpList_append_ow rfl (.tmp 58) (.tmp 60) 45 rfl Tryz.underlying45 Hi.out hz0 hz1 hz2 rfl (by decide) zu_int (v := .slice V1 l1 k1) rfl D2.co.r1 (ad := ⟨wq.heap.size, 0, none⟩) (c := 1) (news := [.int .i64 a]) rfl rfl (cell_one_new _ _ _) (one_cell _ rfl) (noU_one _) (by decide) (by unfold maxLen; have := HL.out; omega) (by have := HL.out; omega) (by have := D2.jo.lt; omega) ?_))
        intro gn cap w2 hown hgrow hat hlt
        have D3 := hid (D2.app1 hown hgrow)
        obtain ⟨a0, a1, a2, a3⟩ := (D2.jo.offrow hgrow (fun e => by have := (D2.co.r1.own.lt _ e.symm).1; omega)).c2
        clear D2 hown hgrow hat hlt y8 y9
        go_upto_region 9 with fail
        have D3 := D3.out
        clear a0 a1 a2 a3
        generalize w2.setCell ⟨g + 1 + 1 + 1, 0, none⟩ (.slice (some ⟨gn, 0, none⟩) (xs.length + 1) cap) = W3 at *
        obtain ⟨U1, lu1, cu1, D3⟩ : ∃ U1 lu1 cu1, Rsu w g B0 A n c B d X Q B1 (some bd) n' c' B' d' X' Q' U1 lu1 cu1 V2 l2 k2 (xs ++ [a]) (xs.map fun z => slx n X Q z + slx n' X' Q' z) cs W3 := ⟨_, _, _, D3⟩
        have Q0 := D3.below (dr0 (W := W3))
        clear D3
        refine wp_region_late 14 (fun w' => w'.cell? ⟨g, 0, none⟩ = some (.slice A n c) ∧ w'.cell? ⟨g, 1, none⟩ = some (.slice B n d) ∧ w'.cell? ⟨g + 1, 0, none⟩ = some (.slice (some bd) n' c') ∧ w'.cell? ⟨g + 1, 1, none⟩ = some (.slice B' n' d') ∧ w'.cell? ⟨g + 1 + 1 + 1, 0, none⟩ = some (.slice U1 lu1 cu1) ∧ w'.cell? ⟨g + 1 + 1 + 1, 1, none⟩ = some (.slice V2 l2 k2)) (by kernel_rfl) (by with_reducible exact Rsu.cells Q0) (fun hHeld => ?_)
        refine wpLate_take 0 [0, 14] (v := ?_) rfl (by kernel_rfl) (by kernel_rfl) (by kernel_rfl) (fun _ _ _ h => h) (by kernel_rfl) (by kernel_rfl) (Or.inl ⟨by rfl, ?_⟩) hHeld ?_
        rotate_left
        · intro w hSw
          (try dsimp only at hSw)
          go_simp
          (try with_reducible rfl)
        (try simp only [Act.put, List.setIfInBounds_toArray, List.set_cons_zero, List.set_cons_succ])
        refine wpLate_take 1 [1, 14] (v := ?_) rfl (by kernel_rfl) (by kernel_rfl) (by kernel_rfl) (fun _ _ _ h => h) (by kernel_rfl) (by kernel_rfl) (Or.inl ⟨by rfl, ?_⟩) hHeld ?_
        rotate_left
        · intro w hSw
          (try dsimp only at hSw)
          go_simp
          (try with_reducible rfl)
        (try simp only [Act.put, List.setIfInBounds_toArray, List.set_cons_zero, List.set_cons_succ])
        refine wpLate_take 2 [2, 14] (v := ?_) rfl (by kernel_rfl) (by kernel_rfl) (by kernel_rfl) (fun _ _ _ h => h) (by kernel_rfl) (by kernel_rfl) (Or.inl ⟨by rfl, ?_⟩) hHeld ?_
        rotate_left
        · intro w hSw
          (try dsimp only at hSw)
          go_simp
          (try with_reducible rfl)
        (try simp only [Act.put, List.setIfInBounds_toArray, List.set_cons_zero, List.set_cons_succ])
        refine wpLate_take 3 [3, 14] (v := ?_) rfl (by kernel_rfl) (by kernel_rfl) (by kernel_rfl) (fun _ _ _ h => h) (by kernel_rfl) (by kernel_rfl) (Or.inl ⟨by rfl, ?_⟩) hHeld ?_
        rotate_left
        · intro w hSw
          (try dsimp only at hSw)
          go_simp
          (try with_reducible rfl)
        (try simp only [Act.put, List.setIfInBounds_toArray, List.set_cons_zero, List.set_cons_succ])
        refine wpLate_take 6 [6, 14] (v := ?_) rfl (by kernel_rfl) (by kernel_rfl) (by kernel_rfl) (fun _ _ _ h => h) (by kernel_rfl) (by kernel_rfl) (Or.inl ⟨by rfl, ?_⟩) hHeld ?_
        rotate_left
        · intro w hSw
          (try dsimp only at hSw)
          go_simp
          (try with_reducible rfl)
        (try simp only [Act.put, List.setIfInBounds_toArray, List.set_cons_zero, List.set_cons_succ])
        refine wpLate_take 7 [7, 14] (v := ?_) rfl (by kernel_rfl) (by kernel_rfl) (by kernel_rfl) (fun _ _ _ h => h) (by kernel_rfl) (by kernel_rfl) (Or.inl ⟨by rfl, ?_⟩) hHeld ?_
        rotate_left
        · intro w hSw
          (try dsimp only at hSw)
          go_simp
          (try with_reducible rfl)
        (try simp only [Act.put, List.setIfInBounds_toArray, List.set_cons_zero, List.set_cons_succ])
        refine wpLate_one 4 (by kernel_rfl) rfl (fun K hK => ?_)
        go_simp
        with_reducible refine (rQ a _ (by omega) (by omega)).mono ?_
        rintro e wv1 ⟨r1, R1, lr1, cr1, r2, R2, lr2, cr2, rfl, hq1, hb1⟩
        have Q1 := Q0.below hb1
        clear hHeld
        refine hK.out _ _ (by with_reducible exact Rsu.cells Q1) (fun hHeld => ?_)
        clear hK K
        (try simp only [Act.put, List.setIfInBounds_toArray, List.set_cons_zero, List.set_cons_succ])
        refine wpLate_one 5 (by kernel_rfl) rfl (fun K hK => ?_)
        go_simp
        with_reducible refine (rSlope Q1.ca OA.out (hq1.ri LX (by decide)) (by decide) (by decide) (by decide) Q1.tb (upn_upto OA.out.inc)).mono ?_
        rintro e wv2 ⟨o1, O1, lo1, co1, o2, O2, lo2, co2, rfl, hq2, hb2⟩
        have Q2 := Q1.below hb2
        clear hHeld
        refine hK.out _ _ (by with_reducible exact Rsu.cells Q2) (fun hHeld => ?_)
        clear hK K
        (try simp only [Act.put, List.setIfInBounds_toArray, List.set_cons_zero, List.set_cons_succ])
        refine wpLate_one 8 (by kernel_rfl) rfl (fun K hK => ?_)
        go_simp
        with_reducible refine (rQ a _ (by omega) (by omega)).mono ?_
        rintro e wv3 ⟨p1, E1, lp1, cp1, p2, E2, lp2, cp2, rfl, hq3, hb3⟩
        have Q3 := Q2.below hb3
        replace hq2 := hq2.below hb3
        clear hHeld
        refine hK.out _ _ (by with_reducible exact Rsu.cells Q3) (fun hHeld => ?_)
        clear hK K
        (try simp only [Act.put, List.setIfInBounds_toArray, List.set_cons_zero, List.set_cons_succ])
        refine wpLate_one 9 (by kernel_rfl) rfl (fun K hK => ?_)
        go_simp
        with_reducible refine (rSlope Q3.cb OB.out (hq3.ri LX (by decide)) (by decide) (by decide) (by decide) Q3.tb (upn_upto OB.out.inc)).mono ?_
        rintro e wv4 ⟨s1, S1, ls1, cs1, s2, S2, ls2, cs2, rfl, hq4, hb4⟩
        have Q4 := Q3.below hb4
        replace hq2 := hq2.below hb4
        clear hHeld
        refine hK.out _ _ (by with_reducible exact Rsu.cells Q4) (fun hHeld => ?_)
        clear hK K
        (try simp only [Act.put, List.setIfInBounds_toArray, List.set_cons_zero, List.set_cons_succ])
        refine wpLate_one 10 (by kernel_rfl) rfl (fun K hK => ?_)
        go_simp
        with_reducible refine (rAddRat (hq2.ri LA.out (by decide)) (hq4.ri LB.out (by decide)) (by decide) (by decide) (by decide) (by decide)).mono ?_
        rintro e wv5 ⟨t1, T1, lt1, ct1, t2, T2, lt2, ct2, rfl, hq, hb5⟩
        have Q5 := Q4.below hb5
        clear hHeld
        refine hK.out _ _ (by with_reducible exact Rsu.cells Q5) (fun hHeld => ?_)
        clear hK K
        (try simp only [Act.put, List.setIfInBounds_toArray, List.set_cons_zero, List.set_cons_succ])
        refine wpLate_one 11 (by kernel_rfl) rfl (fun K hK => ?_)
        go_simp
        have hnews := World.news_of_block (heap_alloc_new wv5 (.cells #[.bool t1, .slice T1 lt1 ct1, .bool t2, .slice T2 lt2 ct2] 26))
        have Q6 := Q5.below (alo (o := .cells #[.bool t1, .slice T1 lt1 ct1, .bool t2, .slice T2 lt2 ct2] 26))
        replace hq := hq.below (alo (o := .cells #[.bool t1, .slice T1 lt1 ct1, .bool t2, .slice T2 lt2 ct2] 26))
        clear hHeld
        refine hK.out _ _ (by with_reducible exact Rsu.cells Q6) (fun hHeld => ?_)
        clear hK K
        (try simp only [Act.put, List.setIfInBounds_toArray, List.set_cons_zero, List.set_cons_succ])
        refine wpLate_one 12 (by kernel_rfl) rfl (fun K hK => ?_)
        rw [if_pos (by rfl)]
        refine wp_append_ow (.tmp 64) (.tmp 74) 46 rfl Tryz.underlying46 Hr.out hy0 hy1 hy2 rfl (by decide) zu_rat (v := .slice V2 l2 k2) rfl Q6.co.r2 (ad := ⟨wv5.heap.size, 0, none⟩) (c := 1) (news := [.bool t1, .slice T1 lt1 ct1, .bool t2, .slice T2 lt2 ct2]) rfl rfl hnews (four_one _ _ _ _ _ _ _ _) (noU_four _ _ _ _ _ _ _ _) (by decide) (by rw [List.length_map]; unfold maxLen; have := HL.out; omega) (by rw [List.length_map]; have := HL.out; omega) (by have := Q6.jo.lt; omega) ?_
        intro gm cap2 w5 hown2 hgrow2 hat2 hlt2
        clear hHeld
        refine hK.out _ _ (by with_reducible exact Rsu.mid2 Q6 hgrow2) (fun hHeld => ?_)
        clear hK K
        (try simp only [Act.put, List.setIfInBounds_toArray, List.set_cons_zero, List.set_cons_succ])
        refine wpLate_take 13 [13, 14] (v := ?_) rfl (by kernel_rfl) (by kernel_rfl) (by kernel_rfl) (fun _ _ _ h => h) (by kernel_rfl) (by kernel_rfl) (Or.inl ⟨by rfl, ?_⟩) hHeld ?_
        rotate_left
        · intro w hSw
          (try dsimp only at hSw)
          go_simp
          (try with_reducible rfl)
        (try simp only [Act.put, List.setIfInBounds_toArray, List.set_cons_zero, List.set_cons_succ])
        obtain ⟨a0, a1, a2, a3⟩ := (Q6.jo.offrow hgrow2 (fun e => by have := (Q6.co.r2.own.lt _ e.symm).1; omega)).c2
        clear hHeld
        refine wpLate_last 14 rfl (by kernel_rfl) (by kernel_rfl) rfl (fun K hK => ?_)
        go_simp
        refine hK.out _ _ ?_
        clear hK K
        (try simp only [Act.put, List.setIfInBounds_toArray, List.set_cons_zero, List.set_cons_succ])
        have D4 := Q6.app2 hown2 hq hgrow2
        rw [List.length_map] at D4
        clear Q0 Q1 Q2 Q3 Q4 Q5 Q6 hq hq1 hq2 hq3 hq4 hown2 hgrow2 hat2 hlt2 hnews hb1 hb2 hb3 hb4 hb5 a0 a1 a2 a3
        obtain ⟨U2, lu2, cu2, cs2, P⟩ : ∃ U2 lu2 cu2 cs2, Rsu w g B0 A n c B d X Q B1 (some bd) n' c' B' d' X' Q' U1 lu1 cu1 U2 lu2 cu2 (xs ++ [a]) ((xs ++ [a]).map fun z => slx n X Q z + slx n' X' Q' z) cs2 (w5.setCell ⟨g + 1 + 1 + 1, 1, none⟩ (.slice (some ⟨gm, 0, none⟩) (xs.length + 1) cap2)) := ⟨_, _, _, _, by rw [List.map_append]; exact D4⟩
        clear D4
        generalize w5.setCell ⟨g + 1 + 1 + 1, 1, none⟩ (.slice (some ⟨gm, 0, none⟩) (xs.length + 1) cap2) = W5 at *
        go_wp2
        go_loopw [7] (fun iv wr => ∃ i2, i ≤ i2 ∧ i2 ≤ n ∧ iv = .int .i64 ((i2 : Nat) : Int) ∧ Hid (∀ j, i ≤ j → j < i2 → X j = a) ∧ Rsu w g B0 A n c B d X Q B1 (some bd) n' c' B' d' X' Q' U1 lu1 cu1 U2 lu2 cu2 (xs ++ [a]) ((xs ++ [a]).map fun z => slx n X Q z + slx n' X' Q' z) cs2 wr) (fun iv _ => n - (intOf iv).toNat)
        case atStart => exact ⟨i, Nat.le_refl _, hi', rfl, hid (fun j h1 h2 => by omega), P⟩
        case round =>
          obtain ⟨i2, hii, hi2, rfl, HI, P⟩ := hrel
          obtain ⟨x0, x1, -, -⟩ := P.ja.c2
          by_cases hi4 : i2 < n
          · exact absurd hi4 (by omega)
          · have HXe := hid (show i2 < n → a < X i2 from fun h => absurd h hi4)
            go_upto_region 12 with fail
            clear x0 x1
            go_loopw [8] (fun kv wr => ∃ k3, k ≤ k3 ∧ k3 ≤ n' ∧ kv = .int .i64 ((k3 : Nat) : Int) ∧ Hid (∀ j, k ≤ j → j < k3 → X' j = a) ∧ Rsu w g B0 A n c B d X Q B1 (some bd) n' c' B' d' X' Q' U1 lu1 cu1 U2 lu2 cu2 (xs ++ [a]) ((xs ++ [a]).map fun z => slx n X Q z + slx n' X' Q' z) cs2 wr) (fun kv _ => n' - (intOf kv).toNat)
            case atStart => exact ⟨k, Nat.le_refl _, hk', rfl, hid (fun j h1 h2 => by omega), P⟩
            case round =>
              obtain ⟨k3, hkk, hk3, rfl, HK, P⟩ := hrel
              obtain ⟨x2, x3, -, -⟩ := P.jb.c2
              by_cases hk4 : k3 < n'
              · obtain ⟨bd2, hBd, esb⟩ := P.cb.es hk4
                have xsb := esb.s
                have hfb := OB.out.far k3 hk4
                injection hBd with hBd
                subst hBd
                by_cases hd : X' k3 ≤ a
                · have hd1 : decide (X' k3 ≤ a) = true := decide_eq_true hd
                  have HK2 := hid (show ∀ j, k ≤ j → j < k3 + 1 → X' j = a from fun j h1 h2 => by
                    rcases Nat.lt_or_ge j k3 with h3 | h3
                    · exact HK.out j h1 h3
                    · have : j = k3 := by omega
                      subst this
                      have h4 := Hak.out (by omega)
                      have h5 := OB.out.inc.le h1 hk4
                      omega)
                  have HP := hid P
                  clear P hd esb
                  go_wp2
                  go_roundw
                  case rel => exact ⟨k3 + 1, by omega, hk4, by go_num, HK2, HP.out⟩
                  case measure => simp [intOf]; omega
                · have hd1 : decide (X' k3 ≤ a) = false := decide_eq_false hd
                  have HYe := hid (show k3 < n' → a < X' k3 from fun _ => by omega)
                  clear hd esb
                  have HN := hid (un_next HU.out Hlo.out Hor.out HI.out HXe.out HK.out HYe.out)
                  have HP := hid P
                  clear P
                  go_wp2
                  go_roundw
                  case rel => exact ⟨i2, k3, U1, lu1, cu1, U2, lu2, cu2, xs ++ [a], cs2, hi2, hk3, rfl, rfl, hid HN.out.1, HP.out⟩
                  case measure => have := HN.out.2; simp [intOf]; omega
              · have HYe := hid (show k3 < n' → a < X' k3 from fun h => absurd h hk4)
                have HN := hid (un_next HU.out Hlo.out Hor.out HI.out HXe.out HK.out HYe.out)
                have HP := hid P
                clear P
                go_wp2
                go_roundw
                case rel => exact ⟨i2, k3, U1, lu1, cu1, U2, lu2, cu2, xs ++ [a], cs2, hi2, hk3, rfl, rfl, hid HN.out.1, HP.out⟩
                case measure => have := HN.out.2; simp [intOf]; omega
      · -- all starts have been gone through
        have hin : i = n := by omega
        have hkn : k = n' := by omega
        subst hin
        subst hkn
        have hgx : Kc.gather i X k X' = xs := (Kc.gather_un i X k X').same HU.out.u
        obtain ⟨e1, e2⟩ : Kc.bs (ix xs) (qx (xs.map fun z => slx i X Q z + slx k X' Q' z)) xs.length = Kc.bs (ix (Kc.gather i X k X')) (smf i X Q k X' Q') (Kc.gather i X k X').length ∧ Kc.bq (qx (xs.map fun z => slx i X Q z + slx k X' Q' z)) xs.length = Kc.bq (smf i X Q k X' Q') (Kc.gather i X k X').length := by
          rw [hgx]
          refine Kc.bs_congr (fun _ _ => rfl) fun j hj => ?_
          unfold smf qx ix
          rw [hgx, List.getD_eq_getElem?_getD, List.getD_eq_getElem?_getD, List.getElem?_map, List.getElem?_eq_getElem hj]
          rfl
        have E1 := hid e1
        have E2 := hid e2
        clear e1 e2 hgx
        obtain rfl := P.co.r1.len
        have hl2 := P.co.r2.len
        have qls := P.ca.qls (by decide)
        have qls' := P.cb.qls (by decide)
        have cv := P.co.cv (k := 25) (by decide) (fun q hq => by
          obtain ⟨z, _, rfl⟩ := List.mem_map.1 hq
          exact (slx_ql (X := X) qls z).add (slx_ql (X := X') qls' z))
        rw [List.length_map] at cv hl2
        subst hl2
        obtain ⟨v0, v1, -, -⟩ := P.jo.c2
        have HL' := HL.out
        clear qls qls'
        go_wp2_with fail
        refine (rNormal cv (by omega) (by decide) (by decide) P.tb).mono ?_
        rintro e w8 ⟨V3, l3, k3, V4, l4, k4, cs3, N1, rfl, hco, hN1, hb8⟩
        obtain rfl := hco.r1.len
        have hln := Kc.bs_len (ix xs) (qx (xs.map fun z => slx i X Q z + slx k X' Q' z)) xs.length
        obtain ⟨ln, hlne⟩ : ∃ ln, (Kc.bs (ix xs) (qx (xs.map fun z => slx i X Q z + slx k X' Q' z)) xs.length).length = ln := ⟨_, rfl⟩
        rw [hlne] at hco hln ⊢
        have hd : decide ((40 : Int) < (ln : Int)) = false := decide_eq_false (by omega)
        have hlo := P.jo.lt
        have hlr := P.jr.lt
        have P8 := P.below hb8
        have hG8 := gb2 w8 (g + 1 + 1 + 1) 0 1 (.slice V3 ln k3) (.slice V4 l4 k4)
        have co8 := hid (hco.offbox P8.jo (noInt_two _ _ _ _ _ _) hG8 (by omega))
        have jr8 := hid (P8.jr.grown hG8 (by omega))
        have jo8 : Hid (Bk ((w8.setCell ⟨g + 1 + 1 + 1, 0, none⟩ (.slice V3 ln k3)).setCell ⟨g + 1 + 1 + 1, 1, none⟩ (.slice V4 l4 k4)) (g + 1 + 1 + 1) (.cells #[.slice V3 ln k3, .slice V4 l4 k4] 48 (0, 0))) := hid (bk_two1 (bk_two0 P8.jo))
        have bl8 := hid (P8.bl.grown hG8 P8.bl.size (fun k hk => by injection hk with hk; have := P8.lo; omega))
        obtain ⟨u0, u1, u2, u3⟩ := P8.jo.c2
        have hl8 := P8.jo.lt
        clear P P8 hb8 hG8 hco cv v0 v1 x0 x1 x2 x3 hlne hln
        go_upto_region 15 with fail
        clear u0 u1 u2 u3 hl8
        have co9 := co8.out
        have jr9 := jr8.out
        have jo9 := jo8.out
        have bl9 := bl8.out
        clear co8 jr8 jo8 bl8
        generalize (w8.setCell ⟨g + 1 + 1 + 1, 0, none⟩ (.slice V3 ln k3)).setCell ⟨g + 1 + 1 + 1, 1, none⟩ (.slice V4 l4 k4) = W9 at *
        obtain ⟨y0, y1, -, -⟩ := jo9.c2
        obtain ⟨i0', i1', i2', i3'⟩ := jr9.c2
        have hl7 := jr9.lt
        have hG := gb2 W9 (g + 1 + 1) 0 1 (.slice V3 ln k3) (.slice V4 l4 k4)
        have HC := hid (co9.offbox jr9 (noInt_two _ _ _ _ _ _) hG (by omega))
        have h11 := hid (bl9.grown hG bl9.size (fun k hk => by injection hk with hk; have := Hg.out; omega))
        clear jo9 jr9 co9 bl9
        go_wp2
        exact bodyPost_ret (v := .tuple #[.agg #[.slice V3 ln k3, .slice V4 l4 k4], .int .i64 0]) (by simp [results, Tryz.results49, go_sem, i0', i1']) rfl ⟨_, _, _, _, _, _, _, _, rfl, by rw [← E1.out, ← E2.out]; exact HC.out, h11.out⟩

end Go.Proofs.YtffipjofefemiaaGreatDoor

namespace Go.Proofs.YtffipjofefemiaaGreatDoor
open Go.RowKit Kb

set_option maxRecDepth 100000 in
set_option maxHeartbeats 80000000 in
theorem Sum_err1 {w : World} {A : Option Addr} {n c : Nat} {B : Option Addr} {m d B0 k : Nat} {X : Nat → Int} {Q : Nat → Rat} {A' : Option Addr} {n' c' : Nat} {B' : Option Addr} {m' d' : Nat} {r : Int} (h : Cv w B0 A n B m k X Q) (hk0 : 0 < k) (hn60 : n ≤ 60) (hm60 : m ≤ 60) (hr : Ck n m X Q r) (h0 : r ≠ 0) :
    Calls Tryz.prog 45 #[.agg #[.slice A n c, .slice B m d], .agg #[.slice A' n' c', .slice B' m' d']] w fun e w' => e = .returned (.tuple #[.agg #[.slice none 0 0, .slice none 0 0], .int .i64 r]) ∧ Below w.heap.size w w' := by
  have b0 := three_new w (.cells #[.slice A n c, .slice B m d] 48) (.cells #[.slice A' n' c', .slice B' m' d'] 48) (.cells #[.slice none 0 0, .slice none 0 0] 48)
  have hB := (((Below.refl w.heap.size w).alloc (Nat.le_refl _) (.cells #[.slice A n c, .slice B m d] 48)).alloc (by simp) (.cells #[.slice A' n' c', .slice B' m' d'] 48)).alloc (by simp; omega) (.cells #[.slice none 0 0, .slice none 0 0] 48)
  obtain ⟨g, hg⟩ : ∃ g, w.heap.size = g := ⟨_, rfl⟩
  have HR := hid hr
  have hr1 : (r == 0) = false := beq_eq_false_iff_ne.2 h0
  have hr2 : (r != 0) = true := by simpa using h0
  clear hr h0
  go_enter Tryz.func45, Tryz.ntmps45
  go_wp2_with fail
  rw [hg] at b0
  generalize ((w.alloc (.cells #[.slice A n c, .slice B m d] 48)).alloc (.cells #[.slice A' n' c', .slice B' m' d'] 48)).alloc (.cells #[.slice none 0 0, .slice none 0 0] 48) = W0 at *
  have h1 := h.below hB
  have j0 : Bk W0 (g + 1 + 1) _ := b0.2.2
  have HB := hid hB
  have Hg := hid hg
  clear h hB b0 hg
  refine (CheckCurve_q h1 hk0 hn60 hm60).mono ?_
  rintro e w1 ⟨r', rfl, hr', hb1⟩
  obtain rfl : r' = r := Ck.same hr'.out HR.out
  have j2 := j0.step hb1
  have hl7 := j2.lt
  have hbb := bthen HB.out hb1 (Nat.le_refl _)
  clear h1 j0 hb1 hr'
  obtain ⟨i0, i1, i2, i3⟩ := j2.c2
  have hG := gb2 w1 (g + 1 + 1) 0 1 (.slice none 0 0) (.slice none 0 0)
  have h11 := hid (hbb.grown hG hbb.size (fun k hk => by injection hk with hk; have := Hg.out; omega))
  clear j2 hbb
  go_wp2
  exact bodyPost_ret (v := .tuple #[.agg #[.slice none 0 0, .slice none 0 0], .int .i64 r']) (by simp [results, Tryz.results45, go_sem, i0, i1]) rfl ⟨rfl, h11.out⟩

set_option maxRecDepth 100000 in
set_option maxHeartbeats 80000000 in
theorem Sum_err2 {w : World} {A : Option Addr} {n c : Nat} {B : Option Addr} {m d B0 k : Nat} {X : Nat → Int} {Q : Nat → Rat} {A' : Option Addr} {n' c' : Nat} {B' : Option Addr} {m' d' : Nat} {B1 : Nat} {X' : Nat → Int} {Q' : Nat → Rat} {r : Int} (h : Cv w B0 A n B m k X Q) (h' : Cv w B1 A' n' B' m' k X' Q') (hk0 : 0 < k) (hn60 : n ≤ 60) (hm60 : m ≤ 60) (hn60' : n' ≤ 60) (hm60' : m' ≤ 60) (hz : Ck n m X Q 0) (hr : Ck n' m' X' Q' r) (h0 : r ≠ 0) :
    Calls Tryz.prog 45 #[.agg #[.slice A n c, .slice B m d], .agg #[.slice A' n' c', .slice B' m' d']] w fun e w' => e = .returned (.tuple #[.agg #[.slice none 0 0, .slice none 0 0], .int .i64 r]) ∧ Below w.heap.size w w' := by
  have b0 := three_new w (.cells #[.slice A n c, .slice B m d] 48) (.cells #[.slice A' n' c', .slice B' m' d'] 48) (.cells #[.slice none 0 0, .slice none 0 0] 48)
  have hB := (((Below.refl w.heap.size w).alloc (Nat.le_refl _) (.cells #[.slice A n c, .slice B m d] 48)).alloc (by simp) (.cells #[.slice A' n' c', .slice B' m' d'] 48)).alloc (by simp; omega) (.cells #[.slice none 0 0, .slice none 0 0] 48)
  obtain ⟨g, hg⟩ : ∃ g, w.heap.size = g := ⟨_, rfl⟩
  have HR := hid hr
  have hr1 : (r == 0) = false := beq_eq_false_iff_ne.2 h0
  have hr2 : (r != 0) = true := by simpa using h0
  clear hr h0
  go_enter Tryz.func45, Tryz.ntmps45
  go_wp2_with fail
  rw [hg] at b0
  generalize ((w.alloc (.cells #[.slice A n c, .slice B m d] 48)).alloc (.cells #[.slice A' n' c', .slice B' m' d'] 48)).alloc (.cells #[.slice none 0 0, .slice none 0 0] 48) = W0 at *
  have h1 := h.below hB
  have h1' := h'.below hB
  have j0 : Bk W0 (g + 1 + 1) _ := b0.2.2
  have jb : Bk W0 (g + 1) _ := b0.2.1
  have HB := hid hB
  have Hg := hid hg
  have HZ := hid hz
  clear h h' hB b0 hg hz
  refine (CheckCurve_q h1 hk0 hn60 hm60).mono ?_
  rintro e w1 ⟨r0, rfl, hr0, hb1⟩
  obtain rfl : 0 = r0 := Ck.same HZ.out hr0.out
  have j1 := j0.step hb1
  have jb1 := jb.step hb1
  have h2 := h1'.below hb1
  have HB1 := hid (bthen HB.out hb1 (Nat.le_refl _))
  clear h1 h1' j0 jb hb1 hr0 HB
  obtain ⟨x0, x1, -, -⟩ := jb1.c2
  go_wp2_with fail
  refine (CheckCurve_q h2 hk0 hn60' hm60').mono ?_
  rintro e w2 ⟨r', rfl, hr', hb2⟩
  obtain rfl : r' = r := Ck.same hr'.out HR.out
  have j2 := j1.step hb2
  have hl7 := j2.lt
  have hbb := bthen HB1.out hb2 (Nat.le_refl _)
  clear h2 j1 jb1 hb2 hr' x0 x1
  obtain ⟨i0, i1, i2, i3⟩ := j2.c2
  have hG := gb2 w2 (g + 1 + 1) 0 1 (.slice none 0 0) (.slice none 0 0)
  have h11 := hid (hbb.grown hG hbb.size (fun k hk => by injection hk with hk; have := Hg.out; omega))
  clear j2 hbb
  go_wp2
  exact bodyPost_ret (v := .tuple #[.agg #[.slice none 0 0, .slice none 0 0], .int .i64 r']) (by simp [results, Tryz.results45, go_sem, i0, i1]) rfl ⟨rfl, h11.out⟩

set_option maxRecDepth 100000 in
set_option maxHeartbeats 80000000 in
theorem Shift_err {w : World} {A : Option Addr} {n c : Nat} {B : Option Addr} {m d B0 k : Nat} {X : Nat → Int} {Q : Nat → Rat} {b r : Int} (h : Cv w B0 A n B m k X Q) (hk0 : 0 < k) (hn60 : n ≤ 60) (hm60 : m ≤ 60) (hr : Ck n m X Q r) (h0 : r ≠ 0) :
    Calls Tryz.prog 46 #[.agg #[.slice A n c, .slice B m d], .int .i64 b] w fun e w' => e = .returned (.tuple #[.agg #[.slice none 0 0, .slice none 0 0], .int .i64 r]) ∧ Below w.heap.size w w' := by
  have b0 := two_new w (.cells #[.slice A n c, .slice B m d] 48) (.cells #[.slice none 0 0, .slice none 0 0] 48)
  have hB := below_two w (.cells #[.slice A n c, .slice B m d] 48) (.cells #[.slice none 0 0, .slice none 0 0] 48)
  obtain ⟨g, hg⟩ : ∃ g, w.heap.size = g := ⟨_, rfl⟩
  have HR := hid hr
  have hr1 : (r == 0) = false := beq_eq_false_iff_ne.2 h0
  have hr2 : (r != 0) = true := by simpa using h0
  clear hr h0
  go_enter Tryz.func46, Tryz.ntmps46
  go_wp2_with fail
  rw [hg] at b0
  generalize (w.alloc (.cells #[.slice A n c, .slice B m d] 48)).alloc (.cells #[.slice none 0 0, .slice none 0 0] 48) = W0 at *
  have h1 := h.below hB
  have j0 : Bk W0 (g + 1) _ := b0.2
  have HB := hid hB
  have Hg := hid hg
  clear h hB b0 hg
  refine (CheckCurve_q h1 hk0 hn60 hm60).mono ?_
  rintro e w1 ⟨r', rfl, hr', hb1⟩
  obtain rfl : r' = r := Ck.same hr'.out HR.out
  have j2 := j0.step hb1
  have hl7 := j2.lt
  have hbb := bthen HB.out hb1 (Nat.le_refl _)
  clear h1 j0 hb1 hr'
  obtain ⟨i0, i1, i2, i3⟩ := j2.c2
  have hG := gb2 w1 (g + 1) 0 1 (.slice none 0 0) (.slice none 0 0)
  have h11 := hid (hbb.grown hG hbb.size (fun k hk => by injection hk with hk; have := Hg.out; omega))
  clear j2 hbb
  go_wp2
  exact bodyPost_ret (v := .tuple #[.agg #[.slice none 0 0, .slice none 0 0], .int .i64 r']) (by simp [results, Tryz.results46, go_sem, i0, i1]) rfl ⟨rfl, h11.out⟩

end Go.Proofs.YtffipjofefemiaaGreatDoor

namespace Go.Proofs.YtffipjofefemiaaGreatDoor
open Go.RowKit Kb

structure L2 (w : World) (g : Nat) (A : Option Addr) (n c : Nat) (B : Option Addr) (m d : Nat) (A' : Option Addr) (n' c' : Nat) (B' : Option Addr) (m' d' : Nat) (wx : World) : Prop where
  ja : Bk wx g (.cells #[.slice A n c, .slice B m d] 48 (0, 0))
  jb : Bk wx (g + 1) (.cells #[.slice A' n' c', .slice B' m' d'] 48 (0, 0))
  bl : Below w.heap.size w wx
section
variable {w : World} {g : Nat} {A : Option Addr} {n c : Nat} {B : Option Addr} {m d : Nat} {A' : Option Addr} {n' c' : Nat} {B' : Option Addr} {m' d' : Nat} {wx wy : World}
theorem L2.below (h : L2 w g A n c B m d A' n' c' B' m' d' wx) (hb : Below wx.heap.size wx wy) : L2 w g A n c B m d A' n' c' B' m' d' wy := ⟨h.ja.step hb, h.jb.step hb, bthen h.bl hb (Nat.le_refl _)⟩
theorem L2.cells (h : L2 w g A n c B m d A' n' c' B' m' d' wx) : wx.cell? ⟨g, 0, none⟩ = some (.slice A n c) ∧ wx.cell? ⟨g, 1, none⟩ = some (.slice B m d) ∧ wx.cell? ⟨g + 1, 0, none⟩ = some (.slice A' n' c') ∧ wx.cell? ⟨g + 1, 1, none⟩ = some (.slice B' m' d') :=
  ⟨h.ja.c2.1, h.ja.c2.2.1, h.jb.c2.1, h.jb.c2.2.1⟩
end
theorem Ck.range {n m : Nat} {X : Nat → Int} {Q : Nat → Rat} {d : Int} (h : Ck n m X Q d) : 0 ≤ d ∧ d ≤ 1000 := by
  rcases h with ⟨_, h1⟩ | ⟨_, _, h1⟩ | ⟨h1, h2, h3, h4⟩ | ⟨_, _, i, _, _, ⟨_, h1⟩ | ⟨_, _, h1⟩⟩ <;> omega
section
variable {w w' : World} {N M : Nat} {V1 V2 U1 U2 : Option Addr} {l1 k1 l2 k2 o1 p1 o2 p2 : Nat} {xs : List Int} {qs : List Rat} {cs cs' : List Value} {b E F : Int}
/-- Two makings of one curve are the same. -/
theorem same_co (h : Co w N (.slice V1 l1 k1) (.slice V2 l2 k2) xs qs cs) (k : Co w M (.slice U1 o1 p1) (.slice U2 o2 p2) xs qs cs') (hx : xs.length ≤ 1000) (hq : qs.length ≤ 1000) :
    Calls Tryz.prog 47 #[.agg #[.slice V1 l1 k1, .slice V2 l2 k2], .agg #[.slice U1 o1 p1, .slice U2 o2 p2]] w fun e w' => e = .returned (.bool true) ∧ Below w.heap.size w w' := by
  obtain rfl := h.r1.len
  obtain rfl := h.r2.len
  have e1 := k.r1.len
  have e2 := k.r2.len
  subst e1; subst e2
  exact SameCurve_true h.r1.si (h.r2.sf h.q) k.r1.si (k.r2.sf k.q) (Nat.le_refl _) (Nat.le_refl _) (fun _ _ => rfl) (fun _ _ => rfl) hx hq
theorem same_zero (w : World) : Calls Tryz.prog 47 #[.agg #[.slice none 0 0, .slice none 0 0], .agg #[.slice none 0 0, .slice none 0 0]] w fun e w' => e = .returned (.bool true) ∧ Below w.heap.size w w' :=
  same_co (Co.nil w 0) (Co.nil w 0) (by decide) (by decide)
theorem Sho.below (h : Sho b xs qs V1 l1 k1 V2 l2 k2 E w) (hb : Below w.heap.size w w') : Sho b xs qs V1 l1 k1 V2 l2 k2 E w' := by
  rcases h with ⟨h1, h2, N, cs, h3⟩ | h
  · exact .inl ⟨h1, h2, N, cs, h3.below hb⟩
  · exact .inr h
theorem Sho.err (h : Sho b xs qs V1 l1 k1 V2 l2 k2 E w) (k : Sho b xs qs U1 o1 p1 U2 o2 p2 F w') : E = F := by
  rcases h with ⟨h1, rfl, _⟩ | ⟨h1, rfl, _⟩ <;> rcases k with ⟨g1, rfl, _⟩ | ⟨g1, rfl, _⟩ <;> first | rfl | exact absurd h1 g1 | exact absurd g1 h1
theorem same_sho (h : Sho b xs qs V1 l1 k1 V2 l2 k2 E w) (k : Sho b xs qs U1 o1 p1 U2 o2 p2 F w) (hx : xs.length ≤ 1000) (hq : qs.length ≤ 1000) :
    Calls Tryz.prog 47 #[.agg #[.slice V1 l1 k1, .slice V2 l2 k2], .agg #[.slice U1 o1 p1, .slice U2 o2 p2]] w fun e w' => e = .returned (.bool true) ∧ Below w.heap.size w w' := by
  rcases h with ⟨h1, _, N, cs, h3⟩ | ⟨h1, _, rfl, rfl, rfl, rfl, rfl, rfl⟩ <;> rcases k with ⟨g1, _, M, cs', g3⟩ | ⟨g1, _, rfl, rfl, rfl, rfl, rfl, rfl⟩
  · exact same_co h3 g3 (by rw [List.length_map]; exact hx) hq
  · exact absurd h1 g1
  · exact absurd g1 h1
  · exact same_zero w
end
set_option maxRecDepth 100000 in
set_option maxHeartbeats 80000000 in
theorem sums_heavy1 {w : World} {A : Option Addr} {n c : Nat} {B : Option Addr} {m d : Nat} {Q : Nat → Rat} {wd : Nat → Bool} {A' : Option Addr} {n' c' : Nat} {B' : Option Addr} {m' d' : Nat} {b : Int} (hq : Sq0 w w.heap.size B m Q wd) (hT : Tb w) (hv : 60 < n ∨ (n ≤ 60 ∧ (60 < m ∨ (m ≤ 60 ∧ ∃ i, i < m ∧ wd i = true))) ∨ (n ≤ 40 ∧ 12 < n ∧ m ≤ 60 ∧ ∀ i, i < m → wd i = false)) :
    Calls Tryz.prog 5 #[.agg #[.slice A n c, .slice B m d], .agg #[.slice A' n' c', .slice B' m' d'], .int .i64 b] w fun e w' => e = .returned (.bool true) ∧ Below w.heap.size w w' := by
  have HV := hid hv
  clear hv
  have b0 := two_new w (.cells #[.slice A n c, .slice B m d] 48) (.cells #[.slice A' n' c', .slice B' m' d'] 48)
  have hB := below_two w (.cells #[.slice A n c, .slice B m d] 48) (.cells #[.slice A' n' c', .slice B' m' d'] 48)
  obtain ⟨g, hg⟩ : ∃ g, w.heap.size = g := ⟨_, rfl⟩
  go_enter Tryz.func5, Tryz.ntmps5
  go_wp2_with fail
  rw [hg] at b0
  generalize (w.alloc (.cells #[.slice A n c, .slice B m d] 48)).alloc (.cells #[.slice A' n' c', .slice B' m' d'] 48) = W0 at *
  have R0 : L2 w g A n c B m d A' n' c' B' m' d' W0 := ⟨b0.1, b0.2, hB⟩
  have Hg := hid hg
  clear hB hg b0
  refine (heavy_yes (hq.below R0.bl (Nat.le_refl _)) R0.bl.size HV.out).mono ?_
  rintro e w1 ⟨rfl, hb1⟩
  have R1 := R0.below hb1
  clear R0 hb1 hq
  go_wp2_with fail
  refine (awake_true _ (hT.below R1.bl)).mono ?_
  rintro e w9 ⟨rfl, hb9⟩
  have hE := bthen R1.bl hb9 (Nat.le_refl _)
  clear hb9 R1
  go_wp2
  go_ret
  exact ⟨rfl, hE⟩

set_option maxRecDepth 100000 in
set_option maxHeartbeats 80000000 in
theorem sums_heavy2 {w : World} {A : Option Addr} {n c : Nat} {B : Option Addr} {m d : Nat} {Q : Nat → Rat} {wd : Nat → Bool} {A' : Option Addr} {n' c' : Nat} {B' : Option Addr} {m' d' : Nat} {Q' : Nat → Rat} {wd' : Nat → Bool} {b : Int} (hq : Sq0 w w.heap.size B m Q wd) (hq' : Sq0 w w.heap.size B' m' Q' wd') (hT : Tb w) (hn : n ≤ 60) (hm : m ≤ 60) (hwd : ∀ i, i < m → wd i = false) (ho : 40 < n ∨ n ≤ 12) (hv : 60 < n' ∨ (n' ≤ 60 ∧ (60 < m' ∨ (m' ≤ 60 ∧ ∃ i, i < m' ∧ wd' i = true))) ∨ (n' ≤ 40 ∧ 12 < n' ∧ m' ≤ 60 ∧ ∀ i, i < m' → wd' i = false)) :
    Calls Tryz.prog 5 #[.agg #[.slice A n c, .slice B m d], .agg #[.slice A' n' c', .slice B' m' d'], .int .i64 b] w fun e w' => e = .returned (.bool true) ∧ Below w.heap.size w w' := by
  have HV := hid hv
  have HD := hid hwd
  clear hv hwd
  have b0 := two_new w (.cells #[.slice A n c, .slice B m d] 48) (.cells #[.slice A' n' c', .slice B' m' d'] 48)
  have hB := below_two w (.cells #[.slice A n c, .slice B m d] 48) (.cells #[.slice A' n' c', .slice B' m' d'] 48)
  obtain ⟨g, hg⟩ : ∃ g, w.heap.size = g := ⟨_, rfl⟩
  go_enter Tryz.func5, Tryz.ntmps5
  go_wp2_with fail
  rw [hg] at b0
  generalize (w.alloc (.cells #[.slice A n c, .slice B m d] 48)).alloc (.cells #[.slice A' n' c', .slice B' m' d'] 48) = W0 at *
  have R0 : L2 w g A n c B m d A' n' c' B' m' d' W0 := ⟨b0.1, b0.2, hB⟩
  have Hg := hid hg
  clear hB hg b0
  refine (heavy_no (hq.below R0.bl (Nat.le_refl _)) R0.bl.size hn hm HD.out ho).mono ?_
  rintro e w1 ⟨rfl, hb1⟩
  have R1 := R0.below hb1
  clear R0 hb1 hq
  obtain ⟨x2, x3, -, -⟩ := R1.jb.c2
  go_wp2_with fail
  refine (heavy_yes (hq'.below R1.bl (Nat.le_refl _)) R1.bl.size HV.out).mono ?_
  rintro e w2 ⟨rfl, hb2⟩
  have R2 := R1.below hb2
  clear R1 hb2 hq' x2 x3
  go_wp2_with fail
  refine (awake_true _ (hT.below R2.bl)).mono ?_
  rintro e w9 ⟨rfl, hb9⟩
  have hE := bthen R2.bl hb9 (Nat.le_refl _)
  clear hb9 R2
  go_wp2
  go_ret
  exact ⟨rfl, hE⟩

set_option maxRecDepth 100000 in
set_option maxHeartbeats 80000000 in
theorem sums_bad1 {w : World} {A : Option Addr} {n c : Nat} {B : Option Addr} {m d : Nat} {X : Nat → Int} {Q : Nat → Rat} {wd : Nat → Bool} {A' : Option Addr} {n' c' : Nat} {B' : Option Addr} {m' d' : Nat} {X' : Nat → Int} {Q' : Nat → Rat} {wd' : Nat → Bool} {b : Int} (hs : Si w w.heap.size A n X) (hq : Sq0 w w.heap.size B m Q wd) (hs' : Si w w.heap.size A' n' X') (hq' : Sq0 w w.heap.size B' m' Q' wd') (hT : Tb w) (hn : n ≤ 60) (hm : m ≤ 60) (hwd : ∀ i, i < m → wd i = false) (ho : 40 < n ∨ n ≤ 12) (hn' : n' ≤ 60) (hm' : m' ≤ 60) (hwd' : ∀ i, i < m' → wd' i = false) (ho' : 40 < n' ∨ n' ≤ 12) {rr ss : Int} (HK : Hid (Ck n m X Q rr)) (HK' : Hid (Ck n' m' X' Q' ss)) (hr : rr ≠ 0) :
    Calls Tryz.prog 5 #[.agg #[.slice A n c, .slice B m d], .agg #[.slice A' n' c', .slice B' m' d'], .int .i64 b] w fun e w' => e = .returned (.bool true) ∧ Below w.heap.size w w' := by
  have HD := hid hwd
  have HD' := hid hwd'
  have ha : Cv w w.heap.size A n B m 12 X Q := ⟨hs, hq.few hwd, Nat.le_refl _⟩
  have hb : Cv w w.heap.size A' n' B' m' 12 X' Q' := ⟨hs', hq'.few hwd', Nat.le_refl _⟩
  clear hwd hwd' hs hs'
  have b0 := two_new w (.cells #[.slice A n c, .slice B m d] 48) (.cells #[.slice A' n' c', .slice B' m' d'] 48)
  have hB := below_two w (.cells #[.slice A n c, .slice B m d] 48) (.cells #[.slice A' n' c', .slice B' m' d'] 48)
  obtain ⟨g, hg⟩ : ∃ g, w.heap.size = g := ⟨_, rfl⟩
  go_enter Tryz.func5, Tryz.ntmps5
  go_wp2_with fail
  rw [hg] at b0
  generalize (w.alloc (.cells #[.slice A n c, .slice B m d] 48)).alloc (.cells #[.slice A' n' c', .slice B' m' d'] 48) = W0 at *
  have R0 : L2 w g A n c B m d A' n' c' B' m' d' W0 := ⟨b0.1, b0.2, hB⟩
  have Hg := hid hg
  clear hB hg b0
  refine (heavy_no (hq.below R0.bl (Nat.le_refl _)) R0.bl.size hn hm HD.out ho).mono ?_
  rintro e w1 ⟨rfl, hb1⟩
  have R1 := R0.below hb1
  clear R0 hb1 hq
  obtain ⟨x2, x3, -, -⟩ := R1.jb.c2
  go_wp2_with fail
  refine (heavy_no (hq'.below R1.bl (Nat.le_refl _)) R1.bl.size hn' hm' HD'.out ho').mono ?_
  rintro e w2 ⟨rfl, hb2⟩
  have R2 := R1.below hb2
  clear R1 hb2 hq' x2 x3
  go_upto_region 3 with fail
  have D0 := R2.below (dr0 (W := w2))
  have hcells := D0.cells
  clear R2
  go_region_held3 (fun w' => w'.cell? ⟨g, 0, none⟩ = some (.slice A n c) ∧ w'.cell? ⟨g, 1, none⟩ = some (.slice B m d) ∧ w'.cell? ⟨g + 1, 0, none⟩ = some (.slice A' n' c') ∧ w'.cell? ⟨g + 1, 1, none⟩ = some (.slice B' m' d')) (first | with_reducible exact L2.cells D0 | with_reducible exact L2.cells D1 | with_reducible exact L2.cells D2) (first
    | (go_at_call 33; with_reducible refine (rCheckCurve (ha.below D0.bl) (by decide) (by decide) hn hm).mono ?_; rintro e wv1 ⟨q1, rfl, HK1, hb1⟩; have D1 := D0.below hb1; obtain rfl : rr = q1 := Ck.same HK.out HK1.out)
    | (go_at_call 33; with_reducible refine (rCheckCurve (hb.below D1.bl) (by decide) (by decide) hn' hm').mono ?_; rintro e wv2 ⟨q2, rfl, HK2, hb2⟩; have D2 := D1.below hb2; obtain rfl : ss = q2 := Ck.same HK'.out HK2.out))
  clear D0 D1 hcells hb1 hb2 HK1 HK2
  obtain ⟨x0, x1, x2, x3⟩ := D2.cells
  go_wp2_with fail
  refine (Sum_err1 (ha.below D2.bl) (by decide) hn hm HK.out hr).mono ?_
  rintro e v0 ⟨rfl, hb⟩
  have hA := alo (W := v0) (o := (.cells #[.slice none 0 0, .slice none 0 0] 48))
  have S0 := (D2.below hb).below hA
  have j0 := Bk.of_alloc v0 (.cells #[.slice none 0 0, .slice none 0 0] 48) rfl
  clear D2 hb hA x0 x1 x2 x3
  go_upto_region 5 with fail
  generalize v0.alloc (.cells #[.slice none 0 0, .slice none 0 0] 48) = V0 at *
  generalize v0.heap.size = g0 at *
  obtain ⟨x0, x1, -, -⟩ := S0.ja.c2
  go_wp2_with fail
  refine (Shift_err (ha.below S0.bl) (by decide) hn hm HK.out hr).mono ?_
  rintro e v1 ⟨rfl, hb⟩
  have hA := alo (W := v1) (o := (.cells #[.slice none 0 0, .slice none 0 0] 48))
  have S1 := (S0.below hb).below hA
  have j1 := Bk.of_alloc v1 (.cells #[.slice none 0 0, .slice none 0 0] 48) rfl
  replace j0 := (j0.step hb).step hA
  clear S0 hb hA x0 x1
  go_upto_region 6 with fail
  generalize v1.alloc (.cells #[.slice none 0 0, .slice none 0 0] 48) = V1 at *
  generalize v1.heap.size = g1 at *
  obtain ⟨hr1, hr2⟩ := HK.out.range
  have hW : IntKind.i64.wrap rr = rr := by rw [IntKind.wrap_i64]; omega
  have hz : (rr == 0) = false := beq_eq_false_iff_ne.2 hr
  have hzd : decide (rr = 0) = false := decide_eq_false hr
  have hzn : (rr != 0) = true := by simpa using hr
  obtain ⟨y0, y1, -, -⟩ := j0.c2
  go_wp2_with fail
  refine (same_zero _).mono ?_
  rintro e v2 ⟨rfl, hb⟩
  have S2 := S1.below hb
  replace j1 := j1.step hb
  clear S1 hb y0 y1 j0
  obtain ⟨y0, y1, -, -⟩ := j1.c2
  go_wp2_with fail
  refine (same_zero _).mono ?_
  rintro e v3 ⟨rfl, hb⟩
  have S3 := S2.below hb
  clear S2 hb y0 y1 j1
  go_wp2_with fail
  refine (awake_true _ (hT.below S3.bl)).mono ?_
  rintro e w9 ⟨rfl, hb9⟩
  have hE := bthen S3.bl hb9 (Nat.le_refl _)
  clear hb9 S3
  go_wp2
  go_ret
  exact ⟨rfl, hE⟩

end Go.Proofs.YtffipjofefemiaaGreatDoor

namespace Go.Proofs.YtffipjofefemiaaGreatDoor
open Go.RowKit Kb

set_option maxRecDepth 100000 in
set_option maxHeartbeats 80000000 in
theorem sums_bad2 {w : World} {A : Option Addr} {n c : Nat} {B : Option Addr} {d : Nat} {X : Nat → Int} {Q : Nat → Rat} {wd : Nat → Bool} {A' : Option Addr} {n' c' : Nat} {B' : Option Addr} {m' d' : Nat} {X' : Nat → Int} {Q' : Nat → Rat} {wd' : Nat → Bool} {b : Int} (hs : Si w w.heap.size A n X) (hq : Sq0 w w.heap.size B n Q wd) (hs' : Si w w.heap.size A' n' X') (hq' : Sq0 w w.heap.size B' m' Q' wd') (hT : Tb w) (hn : n ≤ 60) (hwd : ∀ i, i < n → wd i = false) (ho : 40 < n ∨ n ≤ 12) (hn' : n' ≤ 60) (hm' : m' ≤ 60) (hwd' : ∀ i, i < m' → wd' i = false) (ho' : 40 < n' ∨ n' ≤ 12) {ss : Int} (HK : Hid (Ck n n X Q 0)) (OA : Hid (Okc n X Q)) (HK' : Hid (Ck n' m' X' Q' ss)) (hr : ss ≠ 0) :
    Calls Tryz.prog 5 #[.agg #[.slice A n c, .slice B n d], .agg #[.slice A' n' c', .slice B' m' d'], .int .i64 b] w fun e w' => e = .returned (.bool true) ∧ Below w.heap.size w w' := by
  have HD := hid hwd
  have HD' := hid hwd'
  have ha : Cv w w.heap.size A n B n 12 X Q := ⟨hs, hq.few hwd, Nat.le_refl _⟩
  have hb : Cv w w.heap.size A' n' B' m' 12 X' Q' := ⟨hs', hq'.few hwd', Nat.le_refl _⟩
  clear hwd hwd' hs hs'
  have b0 := two_new w (.cells #[.slice A n c, .slice B n d] 48) (.cells #[.slice A' n' c', .slice B' m' d'] 48)
  have hB := below_two w (.cells #[.slice A n c, .slice B n d] 48) (.cells #[.slice A' n' c', .slice B' m' d'] 48)
  obtain ⟨g, hg⟩ : ∃ g, w.heap.size = g := ⟨_, rfl⟩
  go_enter Tryz.func5, Tryz.ntmps5
  go_wp2_with fail
  rw [hg] at b0
  generalize (w.alloc (.cells #[.slice A n c, .slice B n d] 48)).alloc (.cells #[.slice A' n' c', .slice B' m' d'] 48) = W0 at *
  have R0 : L2 w g A n c B n d A' n' c' B' m' d' W0 := ⟨b0.1, b0.2, hB⟩
  have Hg := hid hg
  clear hB hg b0
  refine (heavy_no (hq.below R0.bl (Nat.le_refl _)) R0.bl.size hn hn HD.out ho).mono ?_
  rintro e w1 ⟨rfl, hb1⟩
  have R1 := R0.below hb1
  clear R0 hb1 hq
  obtain ⟨x2, x3, -, -⟩ := R1.jb.c2
  go_wp2_with fail
  refine (heavy_no (hq'.below R1.bl (Nat.le_refl _)) R1.bl.size hn' hm' HD'.out ho').mono ?_
  rintro e w2 ⟨rfl, hb2⟩
  have R2 := R1.below hb2
  clear R1 hb2 hq' x2 x3
  go_upto_region 3 with fail
  have D0 := R2.below (dr0 (W := w2))
  have hcells := D0.cells
  clear R2
  go_region_held3 (fun w' => w'.cell? ⟨g, 0, none⟩ = some (.slice A n c) ∧ w'.cell? ⟨g, 1, none⟩ = some (.slice B n d) ∧ w'.cell? ⟨g + 1, 0, none⟩ = some (.slice A' n' c') ∧ w'.cell? ⟨g + 1, 1, none⟩ = some (.slice B' m' d')) (first | with_reducible exact L2.cells D0 | with_reducible exact L2.cells D1 | with_reducible exact L2.cells D2) (first
    | (go_at_call 33; with_reducible refine (rCheckCurve (ha.below D0.bl) (by decide) (by decide) hn hn).mono ?_; rintro e wv1 ⟨q1, rfl, HK1, hb1⟩; have D1 := D0.below hb1; obtain rfl : 0 = q1 := Ck.same HK.out HK1.out)
    | (go_at_call 33; with_reducible refine (rCheckCurve (hb.below D1.bl) (by decide) (by decide) hn' hm').mono ?_; rintro e wv2 ⟨q2, rfl, HK2, hb2⟩; have D2 := D1.below hb2; obtain rfl : ss = q2 := Ck.same HK'.out HK2.out))
  clear D0 D1 hcells hb1 hb2 HK1 HK2
  obtain ⟨x0, x1, x2, x3⟩ := D2.cells
  go_wp2_with fail
  refine (Sum_err2 (ha.below D2.bl) (hb.below D2.bl) (by decide) hn hn hn' hm' HK.out HK'.out hr).mono ?_
  rintro e v0 ⟨rfl, hb0⟩
  have hA := alo (W := v0) (o := (.cells #[.slice none 0 0, .slice none 0 0] 48))
  have S0 := (D2.below hb0).below hA
  have j0 := Bk.of_alloc v0 (.cells #[.slice none 0 0, .slice none 0 0] 48) rfl
  clear D2 hb0 hA x0 x1 x2 x3
  go_upto_region 5 with fail
  generalize v0.alloc (.cells #[.slice none 0 0, .slice none 0 0] 48) = V0 at *
  generalize v0.heap.size = g0 at *
  obtain ⟨x0, x1, -, -⟩ := S0.ja.c2
  go_wp2_with fail
  refine (Shift_q (ha.below S0.bl) OA.out (by decide) (by decide) (hT.below S0.bl)).mono ?_
  rintro e v1 ⟨V1, l1, k1, V2, l2, k2, E, rfl, hsh, hb⟩
  have hA := alo (W := v1) (o := (.cells #[.slice V1 l1 k1, .slice V2 l2 k2] 48))
  have S1 := (S0.below hb).below hA
  have j1 := Bk.of_alloc v1 (.cells #[.slice V1 l1 k1, .slice V2 l2 k2] 48) rfl
  replace j0 := (j0.step hb).step hA
  replace hsh := hsh.below hA
  clear S0 hb hA x0 x1
  go_upto_region 6 with fail
  generalize v1.alloc (.cells #[.slice V1 l1 k1, .slice V2 l2 k2] 48) = W1 at *
  generalize v1.heap.size = g1 at *
  obtain ⟨x0, x1, -, -⟩ := S1.ja.c2
  go_wp2_with fail
  refine (rShift (ha.below S1.bl) OA.out (by decide) (by decide) (hT.below S1.bl)).mono ?_
  rintro e v2 ⟨U1, o1, p1, U2, o2, p2, F, rfl, hsr, hb⟩
  have hA := alo (W := v2) (o := (.cells #[.slice U1 o1 p1, .slice U2 o2 p2] 48))
  have S2 := (S1.below hb).below hA
  have j2 := Bk.of_alloc v2 (.cells #[.slice U1 o1 p1, .slice U2 o2 p2] 48) rfl
  replace j0 := (j0.step hb).step hA
  replace j1 := (j1.step hb).step hA
  replace hsh := (hsh.below hb).below hA
  replace hsr := hsr.below hA
  clear S1 hb hA x0 x1
  go_upto_region 9 with fail
  generalize v2.alloc (.cells #[.slice U1 o1 p1, .slice U2 o2 p2] 48) = W2 at *
  generalize v2.heap.size = g2 at *
  obtain rfl : E = F := hsh.err hsr
  have hE0 : E = 0 ∨ E = 2 := by
    rcases hsh with ⟨_, h, _⟩ | ⟨_, h, _⟩
    · exact .inl h
    · exact .inr h
  have hWE : IntKind.i64.wrap E = E := by rw [IntKind.wrap_i64]; omega
  have hEE : (E != E) = false := by simp
  obtain ⟨y0, y1, -, -⟩ := j1.c2
  obtain ⟨z0, z1, -, -⟩ := j2.c2
  go_wp2_with fail
  refine (same_sho hsh hsr (by have := Kc.bs_len X Q n; omega) (by have := Kc.bs_len X Q n; have := Kc.bq_len X Q n; omega)).mono ?_
  rintro e v3 ⟨rfl, hb⟩
  have S3 := S2.below hb
  replace j0 := j0.step hb
  clear S2 hb y0 y1 z0 z1 j1 j2 hsh hsr hE0
  obtain ⟨hr1, hr2⟩ := HK'.out.range
  have hW : IntKind.i64.wrap ss = ss := by rw [IntKind.wrap_i64]; omega
  have hz : (ss == 0) = false := beq_eq_false_iff_ne.2 hr
  have hzd : decide (ss = 0) = false := decide_eq_false hr
  have hzn : (ss != 0) = true := by simpa using hr
  obtain ⟨y0, y1, -, -⟩ := j0.c2
  go_wp2_with fail
  refine (same_zero _).mono ?_
  rintro e v4 ⟨rfl, hb4⟩
  have S4 := S3.below hb4
  clear S3 hb4 y0 y1 j0
  go_wp2_with fail
  refine (awake_true _ (hT.below S4.bl)).mono ?_
  rintro e w9 ⟨rfl, hb9⟩
  have hE := bthen S4.bl hb9 (Nat.le_refl _)
  clear hb9 S4
  go_wp2
  go_ret
  exact ⟨rfl, hE⟩


set_option maxRecDepth 100000 in
set_option maxHeartbeats 80000000 in
theorem sums_good {w : World} {A : Option Addr} {n c : Nat} {B : Option Addr} {d : Nat} {X : Nat → Int} {Q : Nat → Rat} {wd : Nat → Bool} {A' : Option Addr} {n' c' : Nat} {B' : Option Addr} {d' : Nat} {X' : Nat → Int} {Q' : Nat → Rat} {wd' : Nat → Bool} {b : Int} (hs : Si w w.heap.size A n X) (hq : Sq0 w w.heap.size B n Q wd) (hs' : Si w w.heap.size A' n' X') (hq' : Sq0 w w.heap.size B' n' Q' wd') (hA0 : A = none → n = 0 ∧ c = 0) (hA0' : A' = none → n' = 0 ∧ c' = 0) (hT : Tb w) (hn : n ≤ 60) (hwd : ∀ i, i < n → wd i = false) (ho : 40 < n ∨ n ≤ 12) (hn' : n' ≤ 60) (hwd' : ∀ i, i < n' → wd' i = false) (ho' : 40 < n' ∨ n' ≤ 12) (HK : Hid (Ck n n X Q 0)) (OA : Hid (Okc n X Q)) (HK' : Hid (Ck n' n' X' Q' 0)) (OB : Hid (Okc n' X' Q')) :
    Calls Tryz.prog 5 #[.agg #[.slice A n c, .slice B n d], .agg #[.slice A' n' c', .slice B' n' d'], .int .i64 b] w fun e w' => e = .returned (.bool true) ∧ Below w.heap.size w w' := by
  have HD := hid hwd
  have HD' := hid hwd'
  have ha : Cv w w.heap.size A n B n 12 X Q := ⟨hs, hq.few hwd, Nat.le_refl _⟩
  have hb : Cv w w.heap.size A' n' B' n' 12 X' Q' := ⟨hs', hq'.few hwd', Nat.le_refl _⟩
  clear hwd hwd' hs hs'
  have b0 := two_new w (.cells #[.slice A n c, .slice B n d] 48) (.cells #[.slice A' n' c', .slice B' n' d'] 48)
  have hB := below_two w (.cells #[.slice A n c, .slice B n d] 48) (.cells #[.slice A' n' c', .slice B' n' d'] 48)
  obtain ⟨g, hg⟩ : ∃ g, w.heap.size = g := ⟨_, rfl⟩
  go_enter Tryz.func5, Tryz.ntmps5
  go_wp2_with fail
  rw [hg] at b0
  generalize (w.alloc (.cells #[.slice A n c, .slice B n d] 48)).alloc (.cells #[.slice A' n' c', .slice B' n' d'] 48) = W0 at *
  have R0 : L2 w g A n c B n d A' n' c' B' n' d' W0 := ⟨b0.1, b0.2, hB⟩
  have Hg := hid hg
  clear hB hg b0
  refine (heavy_no (hq.below R0.bl (Nat.le_refl _)) R0.bl.size hn hn HD.out ho).mono ?_
  rintro e w1 ⟨rfl, hb1⟩
  have R1 := R0.below hb1
  clear R0 hb1 hq
  obtain ⟨x2, x3, -, -⟩ := R1.jb.c2
  go_wp2_with fail
  refine (heavy_no (hq'.below R1.bl (Nat.le_refl _)) R1.bl.size hn' hn' HD'.out ho').mono ?_
  rintro e w2 ⟨rfl, hb2⟩
  have R2 := R1.below hb2
  clear R1 hb2 hq' x2 x3
  go_upto_region 3 with fail
  have D0 := R2.below (dr0 (W := w2))
  have hcells := D0.cells
  clear R2
  go_region_held3 (fun w' => w'.cell? ⟨g, 0, none⟩ = some (.slice A n c) ∧ w'.cell? ⟨g, 1, none⟩ = some (.slice B n d) ∧ w'.cell? ⟨g + 1, 0, none⟩ = some (.slice A' n' c') ∧ w'.cell? ⟨g + 1, 1, none⟩ = some (.slice B' n' d')) (first | with_reducible exact L2.cells D0 | with_reducible exact L2.cells D1 | with_reducible exact L2.cells D2) (first
    | (go_at_call 33; with_reducible refine (rCheckCurve (ha.below D0.bl) (by decide) (by decide) hn hn).mono ?_; rintro e wv1 ⟨q1, rfl, HK1, hb1⟩; have D1 := D0.below hb1; obtain rfl : 0 = q1 := Ck.same HK.out HK1.out)
    | (go_at_call 33; with_reducible refine (rCheckCurve (hb.below D1.bl) (by decide) (by decide) hn' hn').mono ?_; rintro e wv2 ⟨q2, rfl, HK2, hb2⟩; have D2 := D1.below hb2; obtain rfl : 0 = q2 := Ck.same HK'.out HK2.out))
  clear D0 D1 hcells hb1 hb2 HK1 HK2
  obtain ⟨x0, x1, x2, x3⟩ := D2.cells
  go_wp2_with fail
  refine (Sum_q (ha.below D2.bl) (hb.below D2.bl) OA.out OB.out hA0 hA0' (hT.below D2.bl)).mono ?_
  rintro e v0 ⟨Y1, q1, r1, Y2, q2, r2, N0, cs0, rfl, hco, hb0⟩
  have hA := alo (W := v0) (o := (.cells #[.slice Y1 q1 r1, .slice Y2 q2 r2] 48))
  have S0 := (D2.below hb0).below hA
  have j0 := Bk.of_alloc v0 (.cells #[.slice Y1 q1 r1, .slice Y2 q2 r2] 48) rfl
  replace hco := hco.below hA
  clear D2 hb0 hA x0 x1 x2 x3
  go_upto_region 5 with fail
  generalize v0.alloc (.cells #[.slice Y1 q1 r1, .slice Y2 q2 r2] 48) = V0 at *
  generalize v0.heap.size = g0 at *
  obtain ⟨x0, x1, -, -⟩ := S0.ja.c2
  go_wp2_with fail
  refine (Shift_q (ha.below S0.bl) OA.out (by decide) (by decide) (hT.below S0.bl)).mono ?_
  rintro e v1 ⟨V1, l1, k1, V2, l2, k2, E, rfl, hsh, hb⟩
  have hA := alo (W := v1) (o := (.cells #[.slice V1 l1 k1, .slice V2 l2 k2] 48))
  have S1 := (S0.below hb).below hA
  have j1 := Bk.of_alloc v1 (.cells #[.slice V1 l1 k1, .slice V2 l2 k2] 48) rfl
  replace j0 := (j0.step hb).step hA
  replace hsh := hsh.below hA
  replace hco := (hco.below hb).below hA
  clear S0 hb hA x0 x1
  go_upto_region 6 with fail
  generalize v1.alloc (.cells #[.slice V1 l1 k1, .slice V2 l2 k2] 48) = W1 at *
  generalize v1.heap.size = g1 at *
  obtain ⟨x0, x1, -, -⟩ := S1.ja.c2
  go_wp2_with fail
  refine (rShift (ha.below S1.bl) OA.out (by decide) (by decide) (hT.below S1.bl)).mono ?_
  rintro e v2 ⟨U1, o1, p1, U2, o2, p2, F, rfl, hsr, hb⟩
  have hA := alo (W := v2) (o := (.cells #[.slice U1 o1 p1, .slice U2 o2 p2] 48))
  have S2 := (S1.below hb).below hA
  have j2 := Bk.of_alloc v2 (.cells #[.slice U1 o1 p1, .slice U2 o2 p2] 48) rfl
  replace j0 := (j0.step hb).step hA
  replace j1 := (j1.step hb).step hA
  replace hsh := (hsh.below hb).below hA
  replace hsr := hsr.below hA
  replace hco := (hco.below hb).below hA
  clear S1 hb hA x0 x1
  go_upto_region 9 with fail
  generalize v2.alloc (.cells #[.slice U1 o1 p1, .slice U2 o2 p2] 48) = W2 at *
  generalize v2.heap.size = g2 at *
  obtain rfl : E = F := hsh.err hsr
  have hE0 : E = 0 ∨ E = 2 := by
    rcases hsh with ⟨_, h, _⟩ | ⟨_, h, _⟩
    · exact .inl h
    · exact .inr h
  have hWE : IntKind.i64.wrap E = E := by rw [IntKind.wrap_i64]; omega
  have hEE : (E != E) = false := by simp
  obtain ⟨y0, y1, -, -⟩ := j1.c2
  obtain ⟨z0, z1, -, -⟩ := j2.c2
  go_wp2_with fail
  refine (same_sho hsh hsr (by have := Kc.bs_len X Q n; omega) (by have := Kc.bs_len X Q n; have := Kc.bq_len X Q n; omega)).mono ?_
  rintro e v3 ⟨rfl, hb⟩
  have S3 := S2.below hb
  replace j0 := j0.step hb
  replace hco := hco.below hb
  clear S2 hb y0 y1 z0 z1 j1 j2 hsh hsr hE0
  obtain ⟨x0, x1, x2, x3⟩ := S3.cells
  go_wp2_with fail
  refine (rSum (ha.below S3.bl) (hb.below S3.bl) OA.out OB.out (hT.below S3.bl)).mono ?_
  rintro e v4 ⟨X1, a1, b1, X2, a2, b2, N1, cs1, rfl, hcr, hb4⟩
  have hA := alo (W := v4) (o := (.cells #[.slice X1 a1 b1, .slice X2 a2 b2] 48))
  have S4 := (S3.below hb4).below hA
  have j4 := Bk.of_alloc v4 (.cells #[.slice X1 a1 b1, .slice X2 a2 b2] 48) rfl
  replace j0 := (j0.step hb4).step hA
  replace hco := (hco.below hb4).below hA
  replace hcr := hcr.below hA
  clear S3 hb4 hA x0 x1 x2 x3
  go_upto_region 14 with fail
  generalize v4.alloc (.cells #[.slice X1 a1 b1, .slice X2 a2 b2] 48) = W4 at *
  generalize v4.heap.size = g4 at *
  obtain ⟨y0, y1, -, -⟩ := j0.c2
  obtain ⟨z0, z1, -, -⟩ := j4.c2
  have hl1 := Kc.bs_len (ix (Kc.gather n X n' X')) (smf n X Q n' X' Q') (Kc.gather n X n' X').length
  have hl2 := Kc.bq_len (ix (Kc.gather n X n' X')) (smf n X Q n' X' Q') (Kc.gather n X n' X').length
  have hl3 := Kc.gather_len n X n' X'
  go_wp2_with fail
  refine (same_co hco hcr (by omega) (by omega)).mono ?_
  rintro e v5 ⟨rfl, hb5⟩
  have S5 := S4.below hb5
  clear S4 hb5 y0 y1 z0 z1 j0 j4 hco hcr hl1 hl2 hl3
  go_wp2_with fail
  refine (awake_true _ (hT.below S5.bl)).mono ?_
  rintro e w9 ⟨rfl, hb9⟩
  have hE := bthen S5.bl hb9 (Nat.le_refl _)
  clear hb9 S5
  go_wp2
  go_ret
  exact ⟨rfl, hE⟩

end Go.Proofs.YtffipjofefemiaaGreatDoor

