/- The contracts of slices.Sort, Compact, Concat and of Sum. -/
import Derived.Test.YtffipjofefemiaaGreatDoorSja
import Derived.Lib.SlicesCompact
import Derived.Test.YtffipjofefemiaaGreatDoorSrt
import Derived.Sort.OwnSortedInts
import Derived.Lib.OwnBridge
import Derived.Test.YtffipjofefemiaaGreatDoorLat
namespace Go.Proofs.YtffipjofefemiaaGreatDoor
namespace Kc
/-- The first numbers of a row. -/
def row (X : Nat → Int) (n : Nat) : List Int := (List.range n).map X
theorem row_len (X : Nat → Int) (n : Nat) : (row X n).length = n := by simp [row]
theorem row_mem {X : Nat → Int} {n : Nat} {z : Int} : z ∈ row X n ↔ ∃ j, j < n ∧ X j = z := by simp [row]
theorem keeps_iff (d : Array Int) (m : Nat) : Lib.keeps d m = true ↔ (m = 0 ∨ d[m]! ≠ d[m - 1]!) := by
  unfold Lib.keeps
  by_cases h : m = 0
  · simp [h]
  · simp [h]
theorem compact_inc (d : Array Int) (hs : ∀ i j, i < j → j < d.size → d[i]! ≤ d[j]!) : ∀ m, m ≤ d.size →
    (Lib.compactUpTo d m).Pairwise (· < ·) ∧ (∀ z, z ∈ Lib.compactUpTo d m ↔ ∃ j, j < m ∧ d[j]! = z) ∧ ∀ z, z ∈ Lib.compactUpTo d m → 0 < m ∧ z ≤ d[m - 1]! := by
  intro m
  induction m with
  | zero => intro _; exact ⟨by simp [Lib.compactUpTo], fun z => by simp [Lib.compactUpTo], fun z hz => by simp [Lib.compactUpTo] at hz⟩
  | succ m ih =>
    intro hm
    obtain ⟨h1, h2, h3⟩ := ih (by omega)
    rw [Lib.compactUpTo_succ]
    by_cases hk : Lib.keeps d m = true
    · rw [if_pos hk]
      rw [keeps_iff] at hk
      refine ⟨?_, fun z => ?_, fun z hz => ?_⟩
      · rw [List.pairwise_append]
        refine ⟨h1, by simp, fun a ha b hb => ?_⟩
        rw [List.mem_singleton] at hb
        rw [hb]
        obtain ⟨g1, g2⟩ := h3 a ha
        have g3 := hs (m - 1) m (by omega) (by omega)
        rcases hk with hk | hk
        · omega
        · omega
      · rw [List.mem_append, List.mem_singleton, h2 z]
        constructor
        · rintro (⟨j, hj, e⟩ | e)
          · exact ⟨j, by omega, e⟩
          · exact ⟨m, by omega, e.symm⟩
        · rintro ⟨j, hj, e⟩
          rcases Nat.lt_or_ge j m with g1 | g1
          · exact .inl ⟨j, g1, e⟩
          · have : j = m := by omega
            subst this
            exact .inr e.symm
      · rw [List.mem_append, List.mem_singleton] at hz
        refine ⟨by omega, ?_⟩
        simp only [Nat.add_sub_cancel]
        rcases hz with hz | hz
        · obtain ⟨g1, g2⟩ := h3 z hz
          have g3 := hs (m - 1) m (by omega) (by omega)
          omega
        · omega
    · rw [if_neg hk, List.append_nil]
      rw [keeps_iff] at hk
      have g0 : m ≠ 0 := fun e => hk (.inl e)
      have g1 : d[m]! = d[m - 1]! := Classical.byContradiction fun e => hk (.inr e)
      refine ⟨h1, fun z => ?_, fun z hz => ?_⟩
      · rw [h2 z]
        constructor
        · rintro ⟨j, hj, e⟩
          exact ⟨j, by omega, e⟩
        · rintro ⟨j, hj, e⟩
          rcases Nat.lt_or_ge j m with g2 | g2
          · exact ⟨j, g2, e⟩
          · have : j = m := by omega
            subst this
            exact ⟨j - 1, by omega, by rw [← g1]; exact e⟩
      · obtain ⟨_, g2⟩ := h3 z hz
        refine ⟨by omega, ?_⟩
        simp only [Nat.add_sub_cancel]
        omega
/-- What Sum gathers. -/
def gather (n : Nat) (X : Nat → Int) (m : Nat) (Y : Nat → Int) : List Int := Lib.compact ((row X n ++ row Y m).mergeSort fun x y => decide (x ≤ y))
theorem gather_un (n : Nat) (X : Nat → Int) (m : Nat) (Y : Nat → Int) : Un (gather n X m Y) n X m Y := by
  have hp := List.mergeSort_perm (row X n ++ row Y m) (fun x y => decide (x ≤ y))
  have hs := List.pairwise_mergeSort (le := fun (x y : Int) => decide (x ≤ y)) (fun a b c h1 h2 => by simp at h1 h2 ⊢; omega) (fun a b => by simp; omega) (row X n ++ row Y m)
  unfold gather Lib.compact
  generalize (row X n ++ row Y m).mergeSort (fun x y => decide (x ≤ y)) = l at hp hs
  have hs' : ∀ i j, i < j → j < l.toArray.size → l.toArray[i]! ≤ l.toArray[j]! := fun i j hij hj => by
    have hj' : j < l.length := by simpa using hj
    have := List.pairwise_iff_getElem.1 hs i j (by omega) hj' hij
    simp at this
    simp [hj', show i < l.length by omega, this]
  obtain ⟨h1, h2, _⟩ := compact_inc l.toArray hs' l.length (by simp)
  refine ⟨h1, fun z => ?_⟩
  rw [h2 z]
  have hm : z ∈ l ↔ z ∈ row X n ++ row Y m := hp.mem_iff
  rw [List.mem_append, row_mem, row_mem] at hm
  rw [← hm]
  constructor
  · rintro ⟨j, hj, e⟩
    have : l.toArray[j]! = l[j] := by simp [hj]
    rw [← e, this]; exact List.getElem_mem hj
  · intro hz
    obtain ⟨j, hj, e⟩ := List.getElem_of_mem hz
    exact ⟨j, hj, by simp [hj, e]⟩
theorem compact_len (l : List Int) : (Lib.compact l).length ≤ l.length := by
  unfold Lib.compact Lib.compactUpTo
  rw [List.length_map]
  exact Nat.le_trans (List.length_filter_le _ _) (by simp)
theorem gather_len (n : Nat) (X : Nat → Int) (m : Nat) (Y : Nat → Int) : (gather n X m Y).length ≤ n + m := by
  unfold gather
  refine Nat.le_trans (compact_len _) ?_
  rw [List.length_mergeSort, List.length_append, row_len, row_len]; exact Nat.le_refl _
end Kc

end Go.Proofs.YtffipjofefemiaaGreatDoor

namespace Go.Proofs.YtffipjofefemiaaGreatDoor
open Go.RowKit Kb Go.Sort

abbrev enz : Int → Value := .int .i64
theorem own_cur {w : World} {N l k : Nat} {V : Option Addr} {zs : List Int} (h : w.ownsRow N 3 1 (.slice V l k) l (zs.map enz)) (hl : 0 < l) : ∃ g cur, V = some ⟨g, 0, none⟩ ∧ N ≤ g ∧ w.heap[g]? = some (.cells cur 3 (0, 0)) ∧ l ≤ k ∧ k ≤ maxLen ∧ cur.size = k * 1 ∧ cur.toList.take l = zs.map enz ∧ zs.length = l ∧ g < w.heap.size := by
  have h1 := h.1
  rw [List.length_map, Nat.mul_one] at h1
  rcases h.2 with ⟨_, h0⟩ | ⟨g, cap, cur, e, hb, hg, hn, hm, hs, ht⟩
  · omega
  · injection e with e1 e2 e3
    subst e1; subst e3
    rw [Nat.mul_one] at ht
    exact ⟨g, cur, rfl, hb, hg, hn, hm, hs, ht, h1, (Array.getElem?_eq_some_iff.1 hg).1⟩
theorem below_row {w w' : World} {g N : Nat} (hg : w.grownBy w' (some g)) (hN : N ≤ g) (hs : N ≤ w.heap.size) : Below N w w' :=
  (Below.refl N w).grown hg hs (fun k e => by injection e with e; omega)
theorem Sort_q {w : World} {N l k : Nat} {V : Option Addr} {zs : List Int} (h : w.ownsRow N 3 1 (.slice V l k) l (zs.map enz)) (hl : l ≤ 1000) (hN : N ≤ w.heap.size) :
    Calls Tryz.prog 91 #[.slice V l k] w fun e w' => e = .returned (.tuple #[]) ∧ w'.ownsRow N 3 1 (.slice V l k) l ((zs.mergeSort fun x y => decide (x ≤ y)).map enz) ∧ Below N w w' := by
  rcases Nat.eq_zero_or_pos l with h0 | h0
  · subst h0
    have hz : zs = [] := List.eq_nil_of_length_eq_zero (by have := h.1; simpa using this)
    subst hz
    refine (Tryz.slices_Sort_int_none V k w).mono ?_
    rintro e w' ⟨rfl, rfl⟩
    exact ⟨rfl, by simpa using h, Below.refl _ _⟩
  · obtain ⟨g, cur, rfl, hb, hg, hn, hm, hs, ht, hzl, hlt⟩ := own_cur h h0
    subst hzl
    refine (Tryz.slices_Sort_int g 0 k zs w (holds_of_blockI hg ht) hlt (by omega)).mono ?_
    rintro e w' ⟨rfl, n, os, rfl⟩
    exact ⟨rfl, ownsRow_sortedI (List.length_mergeSort _) hb hg hn hm hs, below_row (grownBy_sortedI _) hb hN⟩
theorem Compact_q {w : World} {N l k : Nat} {V : Option Addr} {zs : List Int} (h : w.ownsRow N 3 1 (.slice V l k) l (zs.map enz)) (hl : l ≤ 1000) (hN : N ≤ w.heap.size) :
    Calls Tryz.prog 92 #[.slice V l k] w fun e w' => e = .returned (.slice V (Lib.compact zs).length k) ∧ w'.ownsRow N 3 1 (.slice V (Lib.compact zs).length k) (Lib.compact zs).length ((Lib.compact zs).map enz) ∧ Below N w w' := by
  rcases Nat.eq_zero_or_pos l with h0 | h0
  · subst h0
    have hz : zs = [] := List.eq_nil_of_length_eq_zero (by have := h.1; simpa using this)
    subst hz
    refine (Tryz.slices_Compact_int_empty V k w).mono ?_
    rintro e w' ⟨rfl, rfl⟩
    exact ⟨rfl, h, Below.refl _ _⟩
  · obtain ⟨g, cur, rfl, hb, hg, hn, hm, hs, ht, hzl, hlt⟩ := own_cur h h0
    subst hzl
    refine (Tryz.slices_Compact_int g 0 k zs w (holds_of_blockI hg ht) (by omega) hn).mono ?_
    rintro e w' ⟨rfl, q, rfl⟩
    have hc := Kc.compact_len zs
    have h1 := Lib.ownsRow_putRow (q := q) (k := (Lib.compact zs).length) (ys := Lib.compact zs ++ List.replicate (zs.length - (Lib.compact zs).length) 0) h (by rw [List.length_append, List.length_replicate]; omega) hc
    rw [List.take_left] at h1

    exact ⟨rfl, h1, Lib.below_putRow (Below.refl N w) hb⟩

end Go.Proofs.YtffipjofefemiaaGreatDoor

namespace Go.Proofs.YtffipjofefemiaaGreatDoor
open Go.RowKit Kb Go.Sort

theorem Si.cells {w : World} {B0 n : Nat} {ad : Addr} {X : Nat → Int} (h : Si w B0 (some ad) n X) : ∀ j u, ((Kc.row X n).map enz)[j]? = some u → w.cell? (ad.add j) = some u := fun j u hu => by
  have hj : j < n := by
    rcases Nat.lt_or_ge j n with h1 | h1
    · exact h1
    · rw [List.getElem?_eq_none (by simp [Kc.row]; exact h1)] at hu; cases hu
  obtain ⟨ad', e, _, hc⟩ := h j hj
  injection e with e
  subst e
  rw [hc, ← hu]
  simp [Kc.row, hj]
theorem enz_one (zs : List Int) : ∀ u ∈ zs.map enz, u.oneCell' = true := fun u hu => by
  obtain ⟨_, _, rfl⟩ := List.mem_map.1 hu
  rfl
theorem wpList_append_si {w : World} {ops : Array Oper} {rest : List Oper} {o : Oper} {a : Act} {Q : Exit → Act → World → Prop} (hgd : o.guard = none) (s x : Operand) (t : TypeId)
    (ho : o.op = .call { callee := .builtin .append, args := #[s, x], argTypes := #[t, t] }) {base : Nat} {i0 : TypeInfo} (ht : Tryz.prog.underlying t = some (.slice 3)) (hi : Tryz.prog.info? 3 = some i0) (hz0 : i0.zero = some (.int .i64 0)) (hz1 : i0.size = 1) (hz2 : i0.bytes = 8)
    {v : Value} {k : Nat} {zs : List Int} (hs : a.eval s = v) (hown : w.ownsRow base 3 1 v k (zs.map enz)) {A : Option Addr} {n c B0 : Nat} {X : Nat → Int} (hx : a.eval x = .slice A n c) (hX : Si w B0 A n X) (hA : A = none → n = 0 ∧ c = 0) (hn : k + n ≤ 1000000000) (hbase : base ≤ w.heap.size)
    (h : ∀ V c' w', w'.ownsRow base 3 1 (.slice V (k + n) c') (k + n) ((zs ++ Kc.row X n).map enz) → w.grownBy w' v.ownBlock → wpList Tryz.prog ops Q rest (a.put o.dst (.slice V (k + n) c')) w') : wpList Tryz.prog ops Q (o :: rest) a w := by
  have shape : ∀ {v' : Value} {w' : World}, w'.ownsRow base 3 1 v' (k + n) ((zs ++ Kc.row X n).map enz) → ∃ V c', v' = .slice V (k + n) c' := fun h' => by
    rcases h'.2 with ⟨rfl, h0⟩ | ⟨g, cap, cur, rfl, _⟩
    · exact ⟨none, 0, by rw [h0]⟩
    · exact ⟨_, _, rfl⟩
  rcases A with _ | ad
  · obtain ⟨rfl, rfl⟩ := hA rfl
    have hown' : w.ownsRow base 3 1 v (k + 0) ((zs ++ Kc.row X 0).map enz) := by simpa [Kc.row] using hown
    obtain ⟨V, c', rfl⟩ := shape hown'
    exact wpList_append_own_none hgd s x t ho base 3 i0 1 ht hi _ k (zs.map enz) hs hown hx (h V c' w hown' (World.grownBy.refl _ _))
  · refine wpList_append_own w hgd s x t ho base 3 i0 (.int .i64 0) 1 8 ht hi hz0 hz1 hz2 rfl (by decide) v k (zs.map enz) hs hown ad n c ((Kc.row X n).map enz) hx (by simp [Kc.row]) hX.cells (enz_one _) (by unfold maxLen; omega) (by omega) hbase ?_
    intro v' w' h1 h2 _
    have h1' : w'.ownsRow base 3 1 v' (k + n) ((zs ++ Kc.row X n).map enz) := by rw [List.map_append]; exact h1
    obtain ⟨V, c', rfl⟩ := shape h1'
    exact h V c' w' h1' h2

/-- What the second loop of Concat holds. -/
def Ccr (w : World) (n m : Nat) (X Y : Nat → Int) (vv iv : Value) (wr : World) : Prop :=
  ∃ V l k zs, vv = .slice V l k ∧ wr.ownsRow w.heap.size 3 1 (.slice V l k) l (zs.map enz) ∧ Below w.heap.size w wr ∧ ((iv = .int .i64 0 ∧ zs = [] ∧ l = 0) ∨ (iv = .int .i64 1 ∧ zs = Kc.row X n ∧ l = n) ∨ (iv = .int .i64 2 ∧ zs = Kc.row X n ++ Kc.row Y m ∧ l = n + m))
set_option maxRecDepth 100000 in
set_option maxHeartbeats 20000000 in
theorem Concat_q {w : World} {A B : Option Addr} {n c m d lb lc B0 B1 : Nat} {X Y : Nat → Int} (hX : Si w B0 A n X) (hY : Si w B1 B m Y) (hB0 : B0 ≤ w.heap.size) (hB1 : B1 ≤ w.heap.size) (hA : A = none → n = 0 ∧ c = 0) (hB : B = none → m = 0 ∧ d = 0) (hn : n ≤ 100) (hm : m ≤ 100) (hc0 : w.cell? ⟨lb, 0, none⟩ = some (.slice A n c)) (hc1 : w.cell? ⟨lb, 1, none⟩ = some (.slice B m d)) (hlb : lb < w.heap.size) :
    Calls Tryz.prog 90 #[.slice (some ⟨lb, 0, none⟩) 2 lc] w fun e w' => ∃ V k, e = .returned (.slice V (n + m) k) ∧ w'.ownsRow w.heap.size 3 1 (.slice V (n + m) k) (n + m) ((Kc.row X n ++ Kc.row Y m).map enz) ∧ Below w.heap.size w w' := by
  obtain ⟨i0, hi0, hz0, hz1, hz2⟩ := info_parts Tryz.infoInt
  have hw0 : IntKind.i64.wrap (n : Int) = (n : Int) := by rw [IntKind.wrap_i64]; omega
  have hw1 : IntKind.i64.wrap ((n : Int) + (m : Int)) = (n : Int) + (m : Int) := by rw [IntKind.wrap_i64]; omega
  have hd0 : decide ((n : Int) < 0) = false := decide_eq_false (by omega)
  have hd1 : decide ((n : Int) + (m : Int) < 0) = false := decide_eq_false (by omega)
  have Hi := hid hi0
  clear hi0
  go_enter Tryz.func90, Tryz.ntmps90
  go_wp2
  go_loopw [3, 11] (fun sv iv wr => w = wr ∧ ((iv = .int .i64 0 ∧ sv = .int .i64 0) ∨ (iv = .int .i64 1 ∧ sv = .int .i64 (n : Int)) ∨ (iv = .int .i64 2 ∧ sv = .int .i64 ((n : Int) + (m : Int))))) (fun _ iv _ => 2 - (intOf iv).toNat)
  case atStart => exact ⟨rfl, .inl ⟨rfl, rfl⟩⟩
  case round =>
    obtain ⟨rfl, ⟨rfl, rfl⟩ | ⟨rfl, rfl⟩ | ⟨rfl, rfl⟩⟩ := hrel
    · go_wp2
      go_roundw
      case rel => exact ⟨trivial, .inr (.inl ⟨rfl, by simp⟩)⟩
      case measure => simp [intOf]
    · go_wp2
      go_roundw
      case rel => exact ⟨trivial, .inr (.inr ⟨rfl, by simp⟩)⟩
      case measure => simp [intOf]
    · -- the room is made
      have grow : Calls Tryz.prog 123 #[.slice none 0 0, .int .i64 ((n : Int) + (m : Int))] w fun e w' => ∃ V k, e = .returned (.slice V 0 k) ∧ w'.ownsRow w.heap.size 3 1 (.slice V 0 k) 0 (([] : List Int).map enz) ∧ Below w.heap.size w w' := by
        rcases Nat.eq_zero_or_pos (n + m) with h0 | h0
        · rw [show ((n : Int) + (m : Int)) = ((0 : Nat) : Int) by omega]
          refine (Tryz.slices_Grow_room none 0 0 0 w (Nat.le_refl _) (by omega) (by omega) (Nat.le_refl _)).mono ?_
          rintro e w' ⟨rfl, rfl⟩
          exact ⟨_, _, rfl, World.ownsRow_nil _ _ _ _, Below.refl _ _⟩
        · rw [show ((n : Int) + (m : Int)) = ((n + m : Nat) : Int) by omega]
          refine (Tryz.slices_Grow_nil i0 _ Hi.out hz0 (by omega) (n + m) w h0 (by rw [hz2]; omega) (by omega)).mono ?_
          rintro e w' ⟨rfl, rfl⟩
          have hge := grownCap_ge w (0 + (n + m)) 0 3
          have hcm := grownCap_le_maxLen w (0 + (n + m)) 0 3 (by unfold maxLen; omega)
          refine ⟨_, _, rfl, World.ownsRow_made (w := w.drew) (base := w.heap.size) _ _ (Nat.le_refl _) hcm ?_, (Below.refl _ _).drew.alloc (Nat.le_refl _) _⟩
          simp only [Array.size_append, size_zeroCells]
          rw [show (Value.cells (.int .i64 0)).size = 1 from rfl]
          simp only [List.size_toArray, List.length_nil, Nat.zero_add, Nat.sub_zero, Nat.mul_one] at hge ⊢
          omega
      go_wp2_with fail
      refine grow.mono ?_
      rintro e w1 ⟨V, k, rfl, hown, hb1⟩
      have hX1 := hX.below hb1 hB0
      have hY1 := hY.below hb1 hB1
      have e0 := (hb1.cell (p := ⟨lb, 0, none⟩) hlb).trans hc0
      have e1 := (hb1.cell (p := ⟨lb, 1, none⟩) hlb).trans hc1
      have R0 : Ccr w n m X Y (.slice V 0 k) (.int .i64 0) w1 := ⟨V, 0, k, [], rfl, hown, hb1, .inl ⟨rfl, rfl, rfl⟩⟩
      clear hown grow hw0 hw1 hd0 hd1 hb1 hX1 hY1 e0 e1
      go_upto_region 10 with fail
      go_wp2
      go_loopw [6, 27] (fun vv iv w2 => Ccr w n m X Y vv iv w2) (fun _ iv _ => 2 - (intOf iv).toNat)
      case atStart => exact R0
      case round =>
        obtain ⟨V2, l2, k2, zs, rfl, hown, hbel, ⟨rfl, rfl, rfl⟩ | ⟨rfl, rfl, rfl⟩ | ⟨rfl, rfl, rfl⟩⟩ := hrel
        · have e0 := (hbel.cell (p := ⟨lb, 0, none⟩) hlb).trans hc0
          have hX1 := hX.below hbel hB0
          have hsz := hbel.size
          have Hbel := hid hbel
          clear hbel R0
          go_wp2_with (at_builtin; (refine wpList_append_si rfl (.tmp 31) (.tmp 32) 45 rfl Tryz.underlying45 Hi.out hz0 hz1 hz2 (v := .slice V2 0 k2) rfl hown (A := A) (n := n) (c := c) rfl hX1 hA (by omega) hsz ?_))
          intro V3 c3 w3 hown3 hgrow
          have R1 := hid (show Ccr w n m X Y (.slice V3 n c3) (.int .i64 1) w3 from ⟨V3, n, c3, _, rfl, by simpa using hown3, Hbel.out.grown hgrow hsz (fun k e => (hown.lt k e).1), .inr (.inl ⟨rfl, rfl, rfl⟩)⟩)
          clear hown hown3 hgrow Hbel hsz hX1 e0
          go_wp2
          go_roundw
          case rel => exact R1.out
          case measure => simp [intOf]
        · have e1 := (hbel.cell (p := ⟨lb, 1, none⟩) hlb).trans hc1
          have hY1 := hY.below hbel hB1
          have hsz := hbel.size
          have Hbel := hid hbel
          clear hbel R0
          go_wp2_with (at_builtin; (refine wpList_append_si rfl (.tmp 31) (.tmp 32) 45 rfl Tryz.underlying45 Hi.out hz0 hz1 hz2 (v := .slice V2 l2 k2) rfl hown (A := B) (n := m) (c := d) rfl hY1 hB (by omega) hsz ?_))
          intro V3 c3 w3 hown3 hgrow
          have R1 := hid (show Ccr w l2 m X Y (.slice V3 (l2 + m) c3) (.int .i64 2) w3 from ⟨V3, l2 + m, c3, Kc.row X l2 ++ Kc.row Y m, rfl, by rw [List.map_append]; exact hown3, Hbel.out.grown hgrow hsz (fun k e => (hown.lt k e).1), .inr (.inr ⟨rfl, rfl, rfl⟩)⟩)
          clear hown hown3 hgrow Hbel hsz hY1 e1
          go_wp2
          go_roundw
          case rel => exact R1.out
          case measure => simp [intOf]
        · clear R0
          go_wp2
          go_ret
          exact ⟨_, _, rfl, by first | exact hown | (rw [List.map_append]; exact hown), hbel⟩

end Go.Proofs.YtffipjofefemiaaGreatDoor

namespace Go.Proofs.YtffipjofefemiaaGreatDoor
open Go.RowKit Kb

theorem upto_upn {n : Nat} {X : Nat → Int} {y : Rat} {u : Nat} (h : Upto n X y u) : Kc.upn X y n = u := by
  induction n generalizing u with
  | zero => have := h.le; unfold Kc.upn; omega
  | succ n ih =>
    have hle := h.le
    unfold Kc.upn
    by_cases hx : (X n : Rat) ≤ y
    · rw [if_pos hx]
      rcases Nat.lt_or_ge n u with h1 | h1
      · omega
      · have := h.hi n h1 (by omega); grind
    · rw [if_neg hx]
      have h1 : u ≤ n := by
        rcases Nat.lt_or_ge n u with h1 | h1
        · exact absurd (h.lo n h1) hx
        · exact h1
      exact ih ⟨h1, h.lo, fun i h2 h3 => h.hi i h2 (by omega)⟩
/-- The slope of a curve at a number. -/
def slx (n : Nat) (X : Nat → Int) (Q : Nat → Rat) (z : Int) : Rat := slq Q (Kc.upn X (z : Rat) n)
/-- The cells of the first i elements are fractions. -/
def Rw (w : World) (cur : Array Value) (i : Nat) (F : Nat → Rat) : Prop := ∀ j, j < i → ∃ s1 A1 n1 c1 s2 A2 n2 c2, cur[j * 4]? = some (.bool s1) ∧ cur[j * 4 + 1]? = some (.slice A1 n1 c1) ∧ cur[j * 4 + 2]? = some (.bool s2) ∧ cur[j * 4 + 3]? = some (.slice A2 n2 c2) ∧ Qf w s1 A1 n1 c1 s2 A2 n2 c2 (F j)
theorem Rw.mono {w w' : World} {cur : Array Value} {i : Nat} {F : Nat → Rat} (h : Rw w cur i F) (H : ∀ s1 A1 n1 c1 s2 A2 n2 c2 q, Qf w s1 A1 n1 c1 s2 A2 n2 c2 q → Qf w' s1 A1 n1 c1 s2 A2 n2 c2 q) : Rw w' cur i F := fun j hj => by
  obtain ⟨s1, A1, n1, c1, s2, A2, n2, c2, h0, h1, h2, h3, h4⟩ := h j hj
  exact ⟨s1, A1, n1, c1, s2, A2, n2, c2, h0, h1, h2, h3, H _ _ _ _ _ _ _ _ _ h4⟩
/-- A row of fractions that is filled. -/
structure Frw (w : World) (gs l i : Nat) (F : Nat → Rat) (cur : Array Value) : Prop where
  b : w.heap[gs]? = some (.cells cur 26 (0, 0))
  s : cur.size = l * 4
  u : ∀ u ∈ cur, NoU u
  r : Rw w cur i F
theorem Frw.nu {w : World} {gs l i : Nat} {F : Nat → Rat} {cur : Array Value} (h : Frw w gs l i F cur) : Nu w (some gs) := fun g cur' T fz e hc => by
  injection e with e
  subst e
  rw [h.b] at hc
  injection hc with hc
  injection hc with hc _ _
  subst hc
  exact h.u
theorem set_noU {cur : Array Value} {i : Nat} {v : Value} (h : ∀ u ∈ cur, NoU u) (hv : NoU v) : ∀ u ∈ cur.setIfInBounds i v, NoU u := fun u hu => by
  rcases Array.mem_or_eq_of_mem_setIfInBounds hu with h1 | h1
  · exact h u h1
  · rw [h1]; exact hv
/-- The next element is written. -/
theorem Frw.put {w : World} {gs l i : Nat} {F : Nat → Rat} {cur : Array Value} {s1 : Bool} {A1 : Option Addr} {n1 c1 : Nat} {s2 : Bool} {A2 : Option Addr} {n2 c2 : Nat} (h : Frw w gs l i F cur) (hi : i < l) (q : Qf w s1 A1 n1 c1 s2 A2 n2 c2 (F i)) :
    ∃ cur', Frw ((((w.setCell ⟨gs, i * 4, none⟩ (.bool s1)).setCell ⟨gs, i * 4 + 1, none⟩ (.slice A1 n1 c1)).setCell ⟨gs, i * 4 + 2, none⟩ (.bool s2)).setCell ⟨gs, i * 4 + 3, none⟩ (.slice A2 n2 c2)) gs l (i + 1) F cur' := by
  have hg : w.grownBy ((((w.setCell ⟨gs, i * 4, none⟩ (.bool s1)).setCell ⟨gs, i * 4 + 1, none⟩ (.slice A1 n1 c1)).setCell ⟨gs, i * 4 + 2, none⟩ (.bool s2)).setCell ⟨gs, i * 4 + 3, none⟩ (.slice A2 n2 c2)) (some gs) := gb_set (gb_set (gb_set (gb_set (World.grownBy.refl _ _) _ _) _ _) _ _) _ _
  have hn := h.nu
  have e1 := heap_setCell_same w gs (i * 4) cur _ (.bool s1) h.b
  have e2 := heap_setCell_same _ gs (i * 4 + 1) _ _ (.slice A1 n1 c1) e1
  have e3 := heap_setCell_same _ gs (i * 4 + 2) _ _ (.bool s2) e2
  have e4 := heap_setCell_same _ gs (i * 4 + 3) _ _ (.slice A2 n2 c2) e3
  have hs := h.s
  refine ⟨_, e4, by simpa using hs, set_noU (set_noU (set_noU (set_noU h.u (noU_bool _)) (noU_slice _ _ _)) (noU_bool _)) (noU_slice _ _ _), fun j hj => ?_⟩
  rcases Nat.lt_or_ge j i with hl | hl
  · obtain ⟨t1, B1, m1, d1, t2, B2, m2, d2, k0, k1, k2, k3, k4⟩ := h.r j hl
    refine ⟨t1, B1, m1, d1, t2, B2, m2, d2, ?_, ?_, ?_, ?_, k4.offrow hn hg⟩
    · rw [Array.getElem?_setIfInBounds_ne (by omega), Array.getElem?_setIfInBounds_ne (by omega), Array.getElem?_setIfInBounds_ne (by omega), Array.getElem?_setIfInBounds_ne (by omega)]; exact k0
    · rw [Array.getElem?_setIfInBounds_ne (by omega), Array.getElem?_setIfInBounds_ne (by omega), Array.getElem?_setIfInBounds_ne (by omega), Array.getElem?_setIfInBounds_ne (by omega)]; exact k1
    · rw [Array.getElem?_setIfInBounds_ne (by omega), Array.getElem?_setIfInBounds_ne (by omega), Array.getElem?_setIfInBounds_ne (by omega), Array.getElem?_setIfInBounds_ne (by omega)]; exact k2
    · rw [Array.getElem?_setIfInBounds_ne (by omega), Array.getElem?_setIfInBounds_ne (by omega), Array.getElem?_setIfInBounds_ne (by omega), Array.getElem?_setIfInBounds_ne (by omega)]; exact k3
  · have hji : j = i := by omega
    subst hji
    refine ⟨s1, A1, n1, c1, s2, A2, n2, c2, ?_, ?_, ?_, ?_, q.offrow hn hg⟩
    · rw [Array.getElem?_setIfInBounds_ne (by omega), Array.getElem?_setIfInBounds_ne (by omega), Array.getElem?_setIfInBounds_ne (by omega), Array.getElem?_setIfInBounds_self_of_lt (by omega)]
    · rw [Array.getElem?_setIfInBounds_ne (by omega), Array.getElem?_setIfInBounds_ne (by omega), Array.getElem?_setIfInBounds_self_of_lt (by simp; omega)]
    · rw [Array.getElem?_setIfInBounds_ne (by omega), Array.getElem?_setIfInBounds_self_of_lt (by simp; omega)]
    · rw [Array.getElem?_setIfInBounds_self_of_lt (by simp; omega)]
/-- What stays in Sum: both curves, the starts, the slopes that are filled. -/
structure Su (w : World) (g N : Nat) (B0 : Nat) (A : Option Addr) (n c : Nat) (B : Option Addr) (d : Nat) (X : Nat → Int) (Q : Nat → Rat) (B1 : Nat) (A' : Option Addr) (n' c' : Nat) (B' : Option Addr) (d' : Nat) (X' : Nat → Int) (Q' : Nat → Rat) (V : Option Addr) (l k : Nat) (zs : List Int) (ad : Addr) (gs : Nat) (i : Nat) (F : Nat → Rat) (wx : World) : Prop where
  ca : Cv wx B0 A n B n 12 X Q
  cb : Cv wx B1 A' n' B' n' 12 X' Q'
  ja : Bk wx g (.cells #[.slice A n c, .slice B n d] 48 (0, 0))
  jb : Bk wx (g + 1) (.cells #[.slice A' n' c', .slice B' n' d'] 48 (0, 0))
  jr : Bk wx (g + 1 + 1) (.cells #[.slice none 0 0, .slice none 0 0] 48 (0, 0))
  st : wx.ownsRow N 3 1 (.slice V l k) l (zs.map enz)
  sl : ∃ cur, Frw wx gs l i F cur
  ha : (⟨gs, 0, none⟩ : Addr) = ad
  hl : zs.length = l ∧ l ≤ 24
  lo : g + 1 + 1 < N ∧ N ≤ gs ∧ B0 ≤ g ∧ B1 ≤ g ∧ 0 < g ∧ w.heap.size ≤ g
  tb : Tb wx
  bl : Below w.heap.size w wx
section
variable {w : World} {g N : Nat} {B0 : Nat} {A : Option Addr} {n c : Nat} {B : Option Addr} {d : Nat} {X : Nat → Int} {Q : Nat → Rat} {B1 : Nat} {A' : Option Addr} {n' c' : Nat} {B' : Option Addr} {d' : Nat} {X' : Nat → Int} {Q' : Nat → Rat} {V : Option Addr} {l k : Nat} {zs : List Int} {ad : Addr} {gs : Nat} {i : Nat} {F : Nat → Rat} {wx wy : World} {s1 : Bool} {A1 : Option Addr} {n1 c1 : Nat} {s2 : Bool} {A2 : Option Addr} {n2 c2 : Nat}
theorem own_below {e : TypeId} {size : Nat} {v : Value} {xs : List Value} (h : wx.ownsRow N e size v l xs) (hb : Below wx.heap.size wx wy) : wy.ownsRow N e size v l xs := h.kept (gb_of_below (r := none) hb) (by cases v.ownBlock <;> simp)
theorem Su.below (h : Su w g N B0 A n c B d X Q B1 A' n' c' B' d' X' Q' V l k zs ad gs i F wx) (hb : Below wx.heap.size wx wy) : Su w g N B0 A n c B d X Q B1 A' n' c' B' d' X' Q' V l k zs ad gs i F wy := by
  obtain ⟨cur, f⟩ := h.sl
  exact ⟨h.ca.below hb, h.cb.below hb, h.ja.step hb, h.jb.step hb, h.jr.step hb, own_below h.st hb, ⟨cur, Bk.step (W := wx) f.b hb, f.s, f.u, f.r.mono fun _ _ _ _ _ _ _ _ _ k => k.below hb⟩, h.ha, h.hl, h.lo, h.tb.below hb, bthen h.bl hb (Nat.le_refl _)⟩
theorem Su.put (h : Su w g N B0 A n c B d X Q B1 A' n' c' B' d' X' Q' V l k zs ad gs i F wx) (hi : i < l) (q : Qf wx s1 A1 n1 c1 s2 A2 n2 c2 (F i)) : Su w g N B0 A n c B d X Q B1 A' n' c' B' d' X' Q' V l k zs ad gs (i + 1) F ((((wx.setCell (ad.add (i * 4)) (.bool s1)).setCell ⟨(ad.add (i * 4)).block, (ad.add (i * 4)).off + 1, none⟩ (.slice A1 n1 c1)).setCell ⟨(ad.add (i * 4)).block, (ad.add (i * 4)).off + 2, none⟩ (.bool s2)).setCell ⟨(ad.add (i * 4)).block, (ad.add (i * 4)).off + 3, none⟩ (.slice A2 n2 c2)) := by
  obtain ⟨cur, f⟩ := h.sl
  obtain ⟨cur', f'⟩ := f.put hi q
  obtain ⟨e1, e2, e3, e4, e5, e6⟩ := h.lo
  have hn := f.nu
  have hg : wx.grownBy ((((wx.setCell ⟨gs, i * 4, none⟩ (.bool s1)).setCell ⟨gs, i * 4 + 1, none⟩ (.slice A1 n1 c1)).setCell ⟨gs, i * 4 + 2, none⟩ (.bool s2)).setCell ⟨gs, i * 4 + 3, none⟩ (.slice A2 n2 c2)) (some gs) := gb_set (gb_set (gb_set (gb_set (World.grownBy.refl _ _) _ _) _ _) _ _) _ _
  rw [← h.ha, row_add]
  have ap : Value.ownBlock (.slice V l k) = none ∨ Value.ownBlock (.slice V l k) ≠ some gs := by
    rcases h.st.2 with ⟨e, _⟩ | ⟨g0, cap, c0, e, _, hb, _⟩
    · left; rw [e]; rfl
    · right
      rw [e]
      intro e0
      have e0' : g0 = gs := by simpa [Value.ownBlock] using e0
      rw [e0', f.b] at hb
      injection hb with hb
      injection hb with _ hb _
      cases hb
  exact ⟨h.ca.offrow hn hg (fun k e => by injection e with e; omega), h.cb.offrow hn hg (fun k e => by injection e with e; omega), h.ja.offrow hg (by simp; omega), h.jb.offrow hg (by simp; omega), h.jr.offrow hg (by simp; omega), h.st.kept hg ap, ⟨cur', f'⟩, rfl, h.hl, h.lo, h.tb.offrow hg (fun k e => by injection e with e; omega), h.bl.grown hg h.bl.size (fun k e => by injection e with e; omega)⟩
/-- The cells that are written next are there. -/
theorem Su.hole (h : Su w g N B0 A n c B d X Q B1 A' n' c' B' d' X' Q' V l k zs ad gs i F wx) (hi : i < l) : ∃ v0 v1 v2 v3, wx.cell? (ad.add (i * 4)) = some v0 ∧ (∀ u0, (wx.setCell (ad.add (i * 4)) u0).cell? ⟨(ad.add (i * 4)).block, (ad.add (i * 4)).off + 1, none⟩ = some v1) ∧ (∀ u0 u1, ((wx.setCell (ad.add (i * 4)) u0).setCell ⟨(ad.add (i * 4)).block, (ad.add (i * 4)).off + 1, none⟩ u1).cell? ⟨(ad.add (i * 4)).block, (ad.add (i * 4)).off + 2, none⟩ = some v2) ∧ (∀ u0 u1 u2, (((wx.setCell (ad.add (i * 4)) u0).setCell ⟨(ad.add (i * 4)).block, (ad.add (i * 4)).off + 1, none⟩ u1).setCell ⟨(ad.add (i * 4)).block, (ad.add (i * 4)).off + 2, none⟩ u2).cell? ⟨(ad.add (i * 4)).block, (ad.add (i * 4)).off + 3, none⟩ = some v3) ∧ wx.frozen? (ad.add (i * 4)) = false ∧ wx.frozen? ⟨(ad.add (i * 4)).block, (ad.add (i * 4)).off + 1, none⟩ = false ∧ wx.frozen? ⟨(ad.add (i * 4)).block, (ad.add (i * 4)).off + 2, none⟩ = false ∧ wx.frozen? ⟨(ad.add (i * 4)).block, (ad.add (i * 4)).off + 3, none⟩ = false ∧ (ad.add (i * 4)).block < wx.heap.size := by
  obtain ⟨cur, f⟩ := h.sl
  have hs := f.s
  rw [← h.ha, row_add]
  have hc : ∀ j, j < l * 4 → wx.cell? ⟨gs, j, none⟩ = some (cur[j]!) := fun j hj => by
    rw [cell_of_row wx gs j cur _ _ f.b, Array.getElem?_eq_getElem (by omega)]
    simp [getElem!_pos, show j < cur.size by omega]
  have ne : ∀ a b : Nat, a ≠ b → (⟨gs, a, none⟩ : Addr) ≠ ⟨gs, b, none⟩ := fun a b hab e => hab (by injection e)
  refine ⟨cur[i * 4]!, cur[i * 4 + 1]!, cur[i * 4 + 2]!, cur[i * 4 + 3]!, hc (i * 4) (by omega), fun u0 => ?_, fun u0 u1 => ?_, fun u0 u1 u2 => ?_, frozen_of_row wx gs _ cur _ f.b, frozen_of_row wx gs _ cur _ f.b, frozen_of_row wx gs _ cur _ f.b, frozen_of_row wx gs _ cur _ f.b, (Array.getElem?_eq_some_iff.1 f.b).1⟩
  · exact (World.cell?_setCell_other _ _ _ _ (ne (i * 4) (i * 4 + 1) (by omega))).trans (hc (i * 4 + 1) (by omega))
  · exact (World.cell?_setCell_other _ _ _ _ (ne (i * 4 + 1) (i * 4 + 2) (by omega))).trans ((World.cell?_setCell_other _ _ _ _ (ne (i * 4) (i * 4 + 2) (by omega))).trans (hc (i * 4 + 2) (by omega)))
  · exact (World.cell?_setCell_other _ _ _ _ (ne (i * 4 + 2) (i * 4 + 3) (by omega))).trans ((World.cell?_setCell_other _ _ _ _ (ne (i * 4 + 1) (i * 4 + 3) (by omega))).trans ((World.cell?_setCell_other _ _ _ _ (ne (i * 4) (i * 4 + 3) (by omega))).trans (hc (i * 4 + 3) (by omega))))
/-- The slopes that have been filled read. -/
theorem Su.sf (h : Su w g N B0 A n c B d X Q B1 A' n' c' B' d' X' Q' V l k zs ad gs i F wx) : Sf wx wx.heap.size (some ad) i F := fun j hj => by
  obtain ⟨cur, f⟩ := h.sl
  obtain ⟨s1, A1, n1, c1, s2, A2, n2, c2, k0, k1, k2, k3, k4⟩ := f.r j hj
  rw [← h.ha]
  refine ⟨_, s1, A1, n1, c1, s2, A2, n2, c2, rfl, (Array.getElem?_eq_some_iff.1 f.b).1, ?_, ?_, ?_, ?_, k4⟩
  · rw [row_add, cell_of_row wx gs _ cur _ _ f.b]; exact k0
  · rw [row_add, cell_of_row wx gs _ cur _ _ f.b]; exact k1
  · rw [row_add, cell_of_row wx gs _ cur _ _ f.b]; exact k2
  · rw [row_add, cell_of_row wx gs _ cur _ _ f.b]; exact k3
theorem own_si (h : wx.ownsRow N 3 1 (.slice V l k) l (zs.map enz)) : Si wx wx.heap.size V l (ix zs) := fun j hj => by
  have hl := h.1
  rw [List.length_map, Nat.mul_one] at hl
  rcases h.2 with ⟨_, h0⟩ | ⟨g0, cap, cur, e, _, hb, _⟩
  · omega
  · injection e with e1 _ _
    subst e1
    refine ⟨_, rfl, (Array.getElem?_eq_some_iff.1 hb).1, h.cells (g := g0) rfl j _ ?_⟩
    simp [ix, List.getElem?_map, List.getElem?_eq_getElem (show j < zs.length by omega)]
end
/-- The same, with the number at hand in its box. -/
structure Sx (w : World) (g N : Nat) (B0 : Nat) (A : Option Addr) (n c : Nat) (B : Option Addr) (d : Nat) (X : Nat → Int) (Q : Nat → Rat) (B1 : Nat) (A' : Option Addr) (n' c' : Nat) (B' : Option Addr) (d' : Nat) (X' : Nat → Int) (Q' : Nat → Rat) (V : Option Addr) (l k : Nat) (zs : List Int) (ad : Addr) (gs : Nat) (i : Nat) (F : Nat → Rat) (gx : Nat) (t1 : Bool) (T1 : Option Addr) (lt1 ct1 : Nat) (t2 : Bool) (T2 : Option Addr) (lt2 ct2 : Nat) (x : Rat) (wx : World) : Prop where
  s : Su w g N B0 A n c B d X Q B1 A' n' c' B' d' X' Q' V l k zs ad gs i F wx
  x : Jq wx gx t1 T1 lt1 ct1 t2 T2 lt2 ct2 x
section
variable {w : World} {g N : Nat} {B0 : Nat} {A : Option Addr} {n c : Nat} {B : Option Addr} {d : Nat} {X : Nat → Int} {Q : Nat → Rat} {B1 : Nat} {A' : Option Addr} {n' c' : Nat} {B' : Option Addr} {d' : Nat} {X' : Nat → Int} {Q' : Nat → Rat} {V : Option Addr} {l k : Nat} {zs : List Int} {ad : Addr} {gs : Nat} {i : Nat} {F : Nat → Rat} {gx : Nat} {t1 : Bool} {T1 : Option Addr} {lt1 ct1 : Nat} {t2 : Bool} {T2 : Option Addr} {lt2 ct2 : Nat} {x : Rat} {wx wy : World}
theorem Sx.below (h : Sx w g N B0 A n c B d X Q B1 A' n' c' B' d' X' Q' V l k zs ad gs i F gx t1 T1 lt1 ct1 t2 T2 lt2 ct2 x wx) (hb : Below wx.heap.size wx wy) : Sx w g N B0 A n c B d X Q B1 A' n' c' B' d' X' Q' V l k zs ad gs i F gx t1 T1 lt1 ct1 t2 T2 lt2 ct2 x wy := ⟨h.s.below hb, h.x.below hb⟩
theorem Sx.cells (h : Sx w g N B0 A n c B d X Q B1 A' n' c' B' d' X' Q' V l k zs ad gs i F gx t1 T1 lt1 ct1 t2 T2 lt2 ct2 x wx) : wx.cell? ⟨g, 0, none⟩ = some (.slice A n c) ∧ wx.cell? ⟨g, 1, none⟩ = some (.slice B n d) ∧ wx.cell? ⟨g + 1, 0, none⟩ = some (.slice A' n' c') ∧ wx.cell? ⟨g + 1, 1, none⟩ = some (.slice B' n' d') ∧ wx.cell? ⟨gx, 0, none⟩ = some (.bool t1) ∧ wx.cell? ⟨gx, 1, none⟩ = some (.slice T1 lt1 ct1) ∧ wx.cell? ⟨gx, 2, none⟩ = some (.bool t2) ∧ wx.cell? ⟨gx, 3, none⟩ = some (.slice T2 lt2 ct2) :=
  ⟨h.s.ja.c2.1, h.s.ja.c2.2.1, h.s.jb.c2.1, h.s.jb.c2.2.1, h.x.b.c4.1, h.x.b.c4.2.1, h.x.b.c4.2.2.1, h.x.b.c4.2.2.2.1⟩
end
theorem made_noU (n : Nat) : ∀ u ∈ madeCells (Value.cells (.agg #[.bool false, .slice none 0 0, .bool false, .slice none 0 0])) n, NoU u := fun u hu => by
  unfold madeCells at hu
  rw [Array.mem_map] at hu
  obtain ⟨j, _, rfl⟩ := hu
  have hlt : j % (Value.cells (.agg #[.bool false, .slice none 0 0, .bool false, .slice none 0 0])).size < (Value.cells (.agg #[.bool false, .slice none 0 0, .bool false, .slice none 0 0])).size := Nat.mod_lt _ (by decide)
  rw [getElem!_pos (Value.cells (.agg #[.bool false, .slice none 0 0, .bool false, .slice none 0 0])) (j % _) hlt]
  exact zu_rat _ (Array.getElem_mem hlt)
theorem run_make_rats {P : Program} {T e : TypeId} {i : TypeInfo} {z : Value} {l : Nat} (ht : P.underlying T = some (.slice e)) (hi : P.info? e = some i) (hz : i.zero = some z) (hs : i.size = 4) (hb : i.bytes = 64) (hl : l ≤ 1000) (w : World) :
    (Instr.makeSlice T (.int .i64 (l : Int)) (.int .i64 (l : Int))).run P w = .ok (.slice (some ⟨w.heap.size, 0, none⟩) l l) (w.alloc (.cells (madeCells z.cells (l * 4)) e)) := by
  rw [run_make (P := P) w T e i z ht hi hz .i64 .i64 l l (Int.natCast_nonneg l) (Int.le_refl _) (by rw [hb]; omega) (by omega)]
  rw [hs, Int.toNat_natCast]

end Go.Proofs.YtffipjofefemiaaGreatDoor

namespace Go.Proofs.YtffipjofefemiaaGreatDoor
open Go.RowKit Kb

/-- The slope of the sum behind start j. -/
def smf (n : Nat) (X : Nat → Int) (Q : Nat → Rat) (n' : Nat) (X' : Nat → Int) (Q' : Nat → Rat) (j : Nat) : Rat := slx n X Q (ix (Kc.gather n X n' X') j) + slx n' X' Q' (ix (Kc.gather n X n' X') j)
theorem slx_ql {n : Nat} {X : Nat → Int} {Q : Nat → Rat} (h : ∀ i, i < n → QL 12 (Q i)) (z : Int) : QL 12 (slx n X Q z) := by
  unfold slx
  have key : ∀ m, m ≤ n → QL 12 (slq Q (Kc.upn X (z : Rat) m)) := fun m => by
    induction m with
    | zero => intro _; unfold Kc.upn slq; rw [if_pos rfl]; exact whole_ql (z := 0) (Le.zero _) (by decide)
    | succ m ih =>
      intro hm
      unfold Kc.upn
      by_cases hx : (X m : Rat) ≤ (z : Rat)
      · rw [if_pos hx]; unfold slq; rw [if_neg (by omega)]; exact h m (by omega)
      · rw [if_neg hx]; exact ih (by omega)
  exact key n (Nat.le_refl _)
theorem Cv.qls {w : World} {B0 n m k : Nat} {A B : Option Addr} {X : Nat → Int} {Q : Nat → Rat} (h : Cv w B0 A n B m k X Q) (hk : 0 < k) : ∀ i, i < m → QL k (Q i) := fun i hi => by
  obtain ⟨_, _, _, _, _, _, _, _, _, _, _, _, _, _, _, h6⟩ := h.q i hi
  exact h6.q.ql hk
set_option maxRecDepth 100000 in
set_option maxHeartbeats 80000000 in
theorem Sum_q {w : World} {A : Option Addr} {n c : Nat} {B : Option Addr} {d B0 : Nat} {X : Nat → Int} {Q : Nat → Rat} {A' : Option Addr} {n' c' : Nat} {B' : Option Addr} {d' B1 : Nat} {X' : Nat → Int} {Q' : Nat → Rat} (ha : Cv w B0 A n B n 12 X Q) (hb : Cv w B1 A' n' B' n' 12 X' Q') (oa : Okc n X Q) (ob : Okc n' X' Q') (hA : A = none → n = 0 ∧ c = 0) (hA' : A' = none → n' = 0 ∧ c' = 0) (hT : Tb w) :
    Calls Tryz.prog 45 #[.agg #[.slice A n c, .slice B n d], .agg #[.slice A' n' c', .slice B' n' d']] w fun e w' => ∃ V1 l1 k1 V2 l2 k2 N cs, e = .returned (.tuple #[.agg #[.slice V1 l1 k1, .slice V2 l2 k2], .int .i64 0]) ∧ Co w' N (.slice V1 l1 k1) (.slice V2 l2 k2) (Kc.bs (ix (Kc.gather n X n' X')) (smf n X Q n' X' Q') (Kc.gather n X n' X').length) (Kc.bq (smf n X Q n' X' Q') (Kc.gather n X n' X').length) cs ∧ Below w.heap.size w w' := by
  obtain ⟨r0, hr0, hy0, hy1, hy2⟩ := info_parts Tryz.infoRat
  have b0 := three_new w (.cells #[.slice A n c, .slice B n d] 48) (.cells #[.slice A' n' c', .slice B' n' d'] 48) (.cells #[.slice none 0 0, .slice none 0 0] 48)
  have hB := (((Below.refl w.heap.size w).alloc (Nat.le_refl _) (.cells #[.slice A n c, .slice B n d] 48)).alloc (by simp) (.cells #[.slice A' n' c', .slice B' n' d'] 48)).alloc (by simp; omega) (.cells #[.slice none 0 0, .slice none 0 0] 48)
  obtain ⟨g, hg⟩ : ∃ g, w.heap.size = g := ⟨_, rfl⟩
  have hle := ha.le
  have hle' := hb.le
  have hTl := hT.2
  have hf := oa.few
  have hf' := ob.few
  have HQ := hid (show ∀ j, QL 25 (smf n X Q n' X' Q' j) from fun j => (slx_ql (ha.qls (by decide)) _).add (slx_ql (hb.qls (by decide)) _))
  have hlen := Kc.gather_len n X n' X'
  obtain ⟨zs, hzs⟩ : ∃ zs, Kc.gather n X n' X' = zs := ⟨_, rfl⟩
  have HZ := hid hzs
  rw [hzs] at hlen
  clear hzs
  have hmk := fun W => run_make_rats (P := Tryz.prog) (T := 46) (e := 26) (l := zs.length) Tryz.underlying46 hr0 hy0 hy1 hy2 (by omega) W
  have hzl : zs.length ≤ 24 := by omega
  go_enter Tryz.func45, Tryz.ntmps45
  go_wp2_with fail
  rw [hg] at b0
  generalize ((w.alloc (.cells #[.slice A n c, .slice B n d] 48)).alloc (.cells #[.slice A' n' c', .slice B' n' d'] 48)).alloc (.cells #[.slice none 0 0, .slice none 0 0] 48) = W0 at *
  have a0 := ha.below hB
  have c0 := hb.below hB
  have T0 := hT.below hB
  have ja0 : Bk W0 g _ := b0.1
  have jb0 : Bk W0 (g + 1) _ := b0.2.1
  have jr0 : Bk W0 (g + 1 + 1) _ := b0.2.2
  have HB := hid hB
  have Hg := hid (show w.heap.size = g ∧ B0 ≤ g ∧ B1 ≤ g ∧ 0 < g from ⟨hg, by omega, by omega, by omega⟩)
  have OA := hid oa
  have OB := hid ob
  clear ha hb hT hB hg b0 oa ob hle hle' hTl hr0
  refine (CheckCurve_ok a0 (by decide) OA.out).mono ?_
  rintro e w1 ⟨rfl, hb1⟩
  have a1 := a0.below hb1
  have c1 := c0.below hb1
  have T1 := T0.below hb1
  have ja1 := ja0.step hb1
  have jb1 := jb0.step hb1
  have jr1 := jr0.step hb1
  have HB1 := hid (bthen HB.out hb1 (Nat.le_refl _))
  clear a0 c0 T0 ja0 jb0 jr0 HB hb1
  obtain ⟨x0, x1, -, -⟩ := jb1.c2
  go_wp2_with fail
  refine (CheckCurve_ok c1 (by decide) OB.out).mono ?_
  rintro e w2 ⟨rfl, hb2⟩
  have hA2 := alo (W := w2) (o := .cells #[.slice A n c, .slice A' n' c'] 45)
  have hb3 := bthen hb2 hA2 (Nat.le_refl _)
  have a2 := a1.below hb3
  have c2 := c1.below hb3
  have T2 := T1.below hb3
  have ja2 := ja1.step hb2
  have jb2 := jb1.step hb2
  have jr2 := jr1.step hb3
  have ja3 := ja1.step hb3
  have jb3 := jb1.step hb3
  have HB2 := hid (bthen HB1.out hb3 (Nat.le_refl _))
  have jl : Bk (w2.alloc (.cells #[.slice A n c, .slice A' n' c'] 45)) w2.heap.size _ := Bk.of_alloc _ _ rfl
  clear a1 c1 T1 ja1 jb1 jr1 HB1 hb2 hA2 hb3 x0 x1
  obtain ⟨x0, x1, -, -⟩ := ja2.c2
  obtain ⟨x2, x3, -, -⟩ := jb2.c2
  go_wp2_with fail
  obtain ⟨y0, y1, -, -⟩ := jl.c2
  have hjl := jl.lt
  clear jl
  refine (Concat_q (lb := w2.heap.size) a2.s c2.s a2.le c2.le hA hA' (by omega) (by omega) y0 y1 hjl).mono ?_
  rintro e w3 ⟨V, k, rfl, hown3, hb3⟩
  clear x0 x1 x2 x3 y0 y1 hjl ja2 jb2
  generalize w2.alloc (.cells #[.slice A n c, .slice A' n' c'] 45) = W2 at *
  go_wp2_with fail
  refine (Sort_q hown3 (by omega) hb3.size).mono ?_
  rintro e w4 ⟨rfl, hown4, hb4⟩
  have hb34 := hb3.trans hb4
  clear hown3 hb3 hb4
  go_wp2_with fail
  refine (Compact_q hown4 (by omega) hb34.size).mono ?_
  rintro e w5 ⟨he, hown5, hb5⟩
  have hz : Lib.compact ((Kc.row X n ++ Kc.row X' n').mergeSort fun x y => decide (x ≤ y)) = zs := HZ.out
  rw [hz] at he hown5
  subst he
  have hb35 := hb34.trans hb5
  have a5 := a2.below hb35
  have c5 := c2.below hb35
  have T5 := T2.below hb35
  have ja5 := ja3.step hb35
  have jb5 := jb3.step hb35
  have jr5 := jr2.step hb35
  have HB5 := hid (bthen HB2.out hb35 (Nat.le_refl _))
  have hN5 := hb35.size
  have hjr := jr2.lt
  clear a2 c2 T2 ja3 jb3 jr2 HB2 hb34 hb35 hb5 hown4 hz
  go_upto_region 11 with fail
  have hA6 := alo (W := w5) (o := .cells (madeCells #[.bool false, .slice none 0 0, .bool false, .slice none 0 0] (zs.length * 4)) 26)
  have hl5 := hown5
  have R0 : ∃ ad, (⟨w5.heap.size, 0, none⟩ : Addr) = ad ∧ Su w g W2.heap.size B0 A n c B d X Q B1 A' n' c' B' d' X' Q' V zs.length k zs ad w5.heap.size 0 (smf n X Q n' X' Q') (w5.alloc (.cells (madeCells #[.bool false, .slice none 0 0, .bool false, .slice none 0 0] (zs.length * 4)) 26)) := by
    obtain ⟨e1, e2, e3, e4⟩ := Hg.out
    exact ⟨_, rfl, a5.below hA6, c5.below hA6, ja5.step hA6, jb5.step hA6, jr5.step hA6, own_below hown5 hA6, ⟨_, heap_alloc_new w5 _, size_madeCells _ _, made_noU _, fun j hj => absurd hj (Nat.not_lt_zero _)⟩, rfl, ⟨rfl, hzl⟩, ⟨hjr, hN5, e2, e3, e4, by omega⟩, T5.below hA6, bthen HB5.out hA6 (Nat.le_refl _)⟩
  obtain ⟨ad, had, R0⟩ := R0
  clear a5 c5 T5 ja5 jb5 jr5 HB5 hN5 hjr hA6 hl5 hown5 hmk hlen
  rw [had]
  have Had := hid had
  clear had
  generalize w5.alloc (.cells (madeCells #[.bool false, .slice none 0 0, .bool false, .slice none 0 0] (zs.length * 4)) 26) = W6 at *
  generalize w5.heap.size = gs at *
  generalize W2.heap.size = N at *
  have HF := hid (show ∀ z, z ∈ zs → -10000000 ≤ z ∧ z ≤ 10000000 from fun z hz => by
    have hu := Kc.gather_un n X n' X'
    rw [HZ.out] at hu
    rcases (hu.mem z).1 hz with ⟨j, hj, e⟩ | ⟨j, hj, e⟩
    · rw [← e]; exact OA.out.far j hj
    · rw [← e]; exact OB.out.far j hj)
  go_wp2
  go_loopw [41] (fun iv wr => ∃ i, i ≤ zs.length ∧ iv = .int .i64 ((i : Nat) : Int) ∧ Su w g N B0 A n c B d X Q B1 A' n' c' B' d' X' Q' V zs.length k zs ad gs i (smf n X Q n' X' Q') wr) (fun iv _ => zs.length - (intOf iv).toNat)
  case atStart => exact ⟨0, Nat.zero_le _, rfl, R0⟩
  case round =>
    obtain ⟨i, hi', rfl, P⟩ := hrel
    clear R0
    by_cases hi : i < zs.length
    · obtain ⟨sd, hV, _, hc⟩ := own_si P.st i hi
      have hx := HF.out _ (ix_mem hi)
      subst hV
      obtain ⟨x, hxe⟩ : ∃ x, ix zs i = x := ⟨_, rfl⟩
      have Hxe := hid hxe
      rw [hxe] at hc hx
      have LX : QL 2 ((x : Int) : Rat) := whole_ql (le_of_small (by omega)) (by decide)
      clear hxe
      go_wp2_with fail
      refine (number_q x _ (by omega) (by omega)).mono ?_
      rintro e wv0 ⟨t1, T1, lt1, ct1, t2, T2, lt2, ct2, rfl, hq0, hb0⟩
      have hA0 := alo (W := wv0) (o := .cells #[.bool t1, .slice T1 lt1 ct1, .bool t2, .slice T2 lt2 ct2] 26)
      have D0 : Sx w g N B0 A n c B d X Q B1 A' n' c' B' d' X' Q' (some sd) zs.length k zs ad gs i (smf n X Q n' X' Q') wv0.heap.size t1 T1 lt1 ct1 t2 T2 lt2 ct2 ((x : Int) : Rat) (wv0.alloc (.cells #[.bool t1, .slice T1 lt1 ct1, .bool t2, .slice T2 lt2 ct2] 26)) := ⟨(P.below hb0).below hA0, Jq.made hq0⟩
      clear P hq0 hb0 hA0 hc
      go_upto_region 15 with fail
      generalize wv0.alloc (.cells #[.bool t1, .slice T1 lt1 ct1, .bool t2, .slice T2 lt2 ct2] 26) = W7 at *
      generalize wv0.heap.size = gx at *
      have Q0 := D0.below (dr0 (W := W7))
      clear D0
      refine wp_region_late 10 (fun w' => w'.cell? ⟨g, 0, none⟩ = some (.slice A n c) ∧ w'.cell? ⟨g, 1, none⟩ = some (.slice B n d) ∧ w'.cell? ⟨g + 1, 0, none⟩ = some (.slice A' n' c') ∧ w'.cell? ⟨g + 1, 1, none⟩ = some (.slice B' n' d') ∧ w'.cell? ⟨gx, 0, none⟩ = some (.bool t1) ∧ w'.cell? ⟨gx, 1, none⟩ = some (.slice T1 lt1 ct1) ∧ w'.cell? ⟨gx, 2, none⟩ = some (.bool t2) ∧ w'.cell? ⟨gx, 3, none⟩ = some (.slice T2 lt2 ct2)) (by kernel_rfl) (by with_reducible exact Sx.cells Q0) (fun hHeld => ?_)
      refine wpLate_take 0 [0, 10] (v := ?_) rfl (by kernel_rfl) (by kernel_rfl) (by kernel_rfl) (fun _ _ _ h => h) (by kernel_rfl) (by kernel_rfl) (Or.inl ⟨by rfl, ?_⟩) hHeld ?_
      rotate_left
      · intro w hSw
        (try dsimp only at hSw)
        go_simp
        (try with_reducible rfl)
      (try simp only [Act.put, List.setIfInBounds_toArray, List.set_cons_zero, List.set_cons_succ])
      refine wpLate_take 1 [1, 10] (v := ?_) rfl (by kernel_rfl) (by kernel_rfl) (by kernel_rfl) (fun _ _ _ h => h) (by kernel_rfl) (by kernel_rfl) (Or.inl ⟨by rfl, ?_⟩) hHeld ?_
      rotate_left
      · intro w hSw
        (try dsimp only at hSw)
        go_simp
        (try with_reducible rfl)
      (try simp only [Act.put, List.setIfInBounds_toArray, List.set_cons_zero, List.set_cons_succ])
      refine wpLate_take 2 [2, 10] (v := ?_) rfl (by kernel_rfl) (by kernel_rfl) (by kernel_rfl) (fun _ _ _ h => h) (by kernel_rfl) (by kernel_rfl) (Or.inl ⟨by rfl, ?_⟩) hHeld ?_
      rotate_left
      · intro w hSw
        (try dsimp only at hSw)
        go_simp
        (try with_reducible rfl)
      (try simp only [Act.put, List.setIfInBounds_toArray, List.set_cons_zero, List.set_cons_succ])
      refine wpLate_take 3 [3, 10] (v := ?_) rfl (by kernel_rfl) (by kernel_rfl) (by kernel_rfl) (fun _ _ _ h => h) (by kernel_rfl) (by kernel_rfl) (Or.inl ⟨by rfl, ?_⟩) hHeld ?_
      rotate_left
      · intro w hSw
        (try dsimp only at hSw)
        go_simp
        (try with_reducible rfl)
      (try simp only [Act.put, List.setIfInBounds_toArray, List.set_cons_zero, List.set_cons_succ])
      refine wpLate_take 5 [5, 10] (v := ?_) rfl (by kernel_rfl) (by kernel_rfl) (by kernel_rfl) (fun _ _ _ h => h) (by kernel_rfl) (by kernel_rfl) (Or.inl ⟨by rfl, ?_⟩) hHeld ?_
      rotate_left
      · intro w hSw
        (try dsimp only at hSw)
        go_simp
        (try with_reducible rfl)
      (try simp only [Act.put, List.setIfInBounds_toArray, List.set_cons_zero, List.set_cons_succ])
      refine wpLate_take 6 [6, 10] (v := ?_) rfl (by kernel_rfl) (by kernel_rfl) (by kernel_rfl) (fun _ _ _ h => h) (by kernel_rfl) (by kernel_rfl) (Or.inl ⟨by rfl, ?_⟩) hHeld ?_
      rotate_left
      · intro w hSw
        (try dsimp only at hSw)
        go_simp
        (try with_reducible rfl)
      (try simp only [Act.put, List.setIfInBounds_toArray, List.set_cons_zero, List.set_cons_succ])
      refine wpLate_one 4 (by kernel_rfl) rfl (fun K hK => ?_)
      go_simp
      with_reducible refine (slopeAt_q Q0.s.ca (Nat.le_refl _) OA.out (Q0.x.z.qi LX) (by decide) (by decide) Q0.s.tb).mono ?_
      rintro e wv1 ⟨r1, R1, lr1, cr1, r2, R2, lr2, cr2, u, rfl, HU, hq1, hb1⟩
      have Q1 := Q0.below hb1
      clear hHeld
      refine hK.out _ _ (by with_reducible exact Sx.cells Q1) (fun hHeld => ?_)
      clear hK K
      (try simp only [Act.put, List.setIfInBounds_toArray, List.set_cons_zero, List.set_cons_succ])
      refine wpLate_one 7 (by kernel_rfl) rfl (fun K hK => ?_)
      go_simp
      with_reducible refine (slopeAt_q Q1.s.cb (Nat.le_refl _) OB.out (Q1.x.z.qi LX) (by decide) (by decide) Q1.s.tb).mono ?_
      rintro e wv2 ⟨o1, O1, lo1, co1, o2, O2, lo2, co2, v, rfl, HV, hq2, hb2⟩
      have Q2 := Q1.below hb2
      replace hq1 := hq1.below hb2
      clear hHeld
      refine hK.out _ _ (by with_reducible exact Sx.cells Q2) (fun hHeld => ?_)
      clear hK K
      (try simp only [Act.put, List.setIfInBounds_toArray, List.set_cons_zero, List.set_cons_succ])
      refine wpLate_one 8 (by kernel_rfl) rfl (fun K hK => ?_)
      go_simp
      with_reducible refine (AddRat_q hq1.q hq2.q (by decide) (by decide) (by decide) (by decide) Q2.s.tb).mono ?_
      rintro e wv3 ⟨s1, S1, ls1, cs1, s2, S2, ls2, cs2, rfl, hq, hb3⟩
      have Q3 := Q2.below hb3
      clear hHeld
      refine hK.out _ _ (by with_reducible exact Sx.cells Q3) (fun hHeld => ?_)
      clear hK K
      (try simp only [Act.put, List.setIfInBounds_toArray, List.set_cons_zero, List.set_cons_succ])
      refine wpLate_take 9 [9, 10] (v := ?_) rfl (by kernel_rfl) (by kernel_rfl) (by kernel_rfl) (fun _ _ _ h => h) (by kernel_rfl) (by kernel_rfl) (Or.inl ⟨by rfl, ?_⟩) hHeld ?_
      rotate_left
      · intro w hSw
        (try dsimp only at hSw)
        go_simp
        (try with_reducible rfl)
      (try simp only [Act.put, List.setIfInBounds_toArray, List.set_cons_zero, List.set_cons_succ])
      obtain ⟨z0, z1, z2, z3, c0, c1, c2, c3, f0, f1, f2, f3, hlt⟩ := Q3.s.hole hi
      clear hHeld
      refine wpLate_last 10 rfl (by kernel_rfl) (by kernel_rfl) rfl (fun K hK => ?_)
      go_simp
      refine hK.out _ _ ?_
      clear hK K
      (try simp only [Act.put, List.setIfInBounds_toArray, List.set_cons_zero, List.set_cons_succ])
      have hF : slq Q u + slq Q' v = smf n X Q n' X' Q' i := by unfold smf slx; rw [HZ.out, Hxe.out, upto_upn HU.out, upto_upn HV.out]
      rw [hF] at hq
      have HP := hid (Q3.s.put hi hq)
      clear Q0 Q1 Q2 Q3 hq hq1 hq2 hF c0 c1 c2 c3 f0 f1 f2 f3 hlt hb1 hb2 hb3
      go_wp2
      go_roundw
      case rel => exact ⟨i + 1, hi, by go_num, HP.out⟩
      case measure => simp [intOf]; omega
    · have hin : i = zs.length := by omega
      subst hin
      have cv : Cv wr wr.heap.size V zs.length (some ad) zs.length 25 (ix zs) (smf n X Q n' X' Q') := ⟨own_si P.st, P.sf.sq (by decide) (fun i _ => HQ.out i), Nat.le_refl _⟩
      have hzl' := hzl
      go_wp2_with fail
      refine (bends_q cv (Nat.le_refl _) (by omega) (by decide) (by decide) P.tb).mono ?_
      rintro e w8 ⟨V1, l1, k1, V2, l2, k2, cs, N1, rfl, hco, hN1, hb8⟩
      obtain rfl := hco.r1.len
      have hln := Kc.bs_len (ix zs) (smf n X Q n' X' Q') zs.length
      have hd : decide ((40 : Int) < ((Kc.bs (ix zs) (smf n X Q n' X' Q') zs.length).length : Int)) = false := decide_eq_false (by omega)
      have hA9 := alo (W := w8) (o := .cells #[.slice V1 (Kc.bs (ix zs) (smf n X Q n' X' Q') zs.length).length k1, .slice V2 l2 k2] 48)
      have jm := Bk.of_alloc w8 (.cells #[.slice V1 (Kc.bs (ix zs) (smf n X Q n' X' Q') zs.length).length k1, .slice V2 l2 k2] 48) rfl
      have P9 := (P.below hb8).below hA9
      have hco9 := hco.below hA9
      have hlt := P.jr.lt
      clear P hb8 hA9 hco cv
      go_upto_region 18 with fail
      generalize w8.alloc (.cells #[.slice V1 (Kc.bs (ix zs) (smf n X Q n' X' Q') zs.length).length k1, .slice V2 l2 k2] 48) = W9 at *
      generalize w8.heap.size = gm at *
      obtain ⟨y0, y1, -, -⟩ := jm.c2
      obtain ⟨i0', i1', i2', i3'⟩ := P9.jr.c2
      have hl7 := P9.jr.lt
      have hG := gb2 W9 (g + 1 + 1) 0 1 (.slice V1 (Kc.bs (ix zs) (smf n X Q n' X' Q') zs.length).length k1) (.slice V2 l2 k2)
      have HC := hid (hco9.offbox P9.jr (noInt_two _ _ _ _ _ _) hG (by omega))
      have h11 := hid (P9.bl.grown hG P9.bl.size (fun k hk => by injection hk with hk; have := Hg.out; omega))
      clear P9 hco9 jm hln
      go_wp2
      exact bodyPost_ret (v := .tuple #[.agg #[.slice V1 (Kc.bs (ix zs) (smf n X Q n' X' Q') zs.length).length k1, .slice V2 l2 k2], .int .i64 0]) (by simp [results, Tryz.results45, go_sem, i0', i1']) rfl ⟨_, _, _, _, _, _, _, _, rfl, by rw [HZ.out]; exact HC.out, h11.out⟩

end Go.Proofs.YtffipjofefemiaaGreatDoor

