/- The reference: trim, read, digit, compare, plus, minus. -/
import Derived.Test.YtffipjofefemiaaGreatDoorMB
import Derived.Test.YtffipjofefemiaaGreatDoorME
import Derived.Laws.AppendOwnNone
namespace Go.Proofs.YtffipjofefemiaaGreatDoor
open Go.RowKit Kb

theorem Tryz.infoInt : (Tryz.prog.info? 3).map (fun i => (i.zero, i.size, i.bytes)) = some (some (.int .i64 0), 1, 8) := by kernel_rfl
/-- The slice v reads as the digits xs, each an int. -/
def Ls (w : World) (v : Value) (xs : List Nat) : Prop := ∃ A c, v = .slice A xs.length c ∧ Sl w .i64 A xs ∧ xs.length ≤ c ∧ c ≤ maxLen ∧ (A = none → c = 0)
/-- The slice v is the number a of the reference: its digits, no 0 at the end. -/
def Nt (w : World) (v : Value) (a : Nat) : Prop := Ls w v (dig a)
theorem Ls.below {w w' : World} {v : Value} {xs : List Nat} (h : Ls w v xs) (hb : Below w.heap.size w w') : Ls w' v xs := by
  obtain ⟨A, c, e, h1, h2⟩ := h
  exact ⟨A, c, e, h1.below hb, h2⟩
theorem Nt.below {w w' : World} {v : Value} {a : Nat} (h : Nt w v a) (hb : Below w.heap.size w w') : Nt w' v a := Ls.below h hb
theorem Ls.nil (w : World) : Ls w (.slice none 0 0) [] := ⟨none, 0, rfl, Sl.nil _ _ _, Nat.le_refl _, by unfold maxLen; omega, fun _ => rfl⟩
theorem Ls.of_own {w : World} {base n : Nat} {v : Value} {o : List Nat} (h : w.ownsRow base 3 1 v n (vals .i64 o)) : Ls w v o := by
  have hl := h.1
  rw [vals_length] at hl
  rcases id h.2 with ⟨e, h0⟩ | ⟨g, cap, cur, e, _, _, h1, h2, _⟩
  · subst h0
    obtain rfl : o = [] := List.eq_nil_of_length_eq_zero (by omega)
    rw [e]
    exact Ls.nil w
  · have hn : n = o.length := by omega
    subst hn
    subst e
    exact ⟨_, cap, rfl, Sl.of_own h, h1, h2, fun e => by cases e⟩

theorem trimL_take0 {xs : List Nat} {n : Nat} (hn : keepL xs n) (h : n = 0 ∨ nth xs (n - 1) ≠ 0) : trimL xs = xs.take n := by
  have h1 := trimL_length hn h
  obtain ⟨k, hk⟩ := trimL_is_take xs
  rw [hk, List.length_take] at h1
  rw [hk]
  rcases Nat.le_total k xs.length with h2 | h2
  · rw [Nat.min_eq_left h2] at h1; rw [h1]
  · rw [Nat.min_eq_right h2] at h1
    rw [List.take_of_length_le h2, ← h1, List.take_of_length_le (Nat.le_refl _)]

set_option maxRecDepth 100000 in
set_option maxHeartbeats 2000000 in
theorem rtrim (v : Value) (xs : List Nat) (w : World) (hs : Ls w v xs) (hx : Lim xs) (hm : xs.length ≤ 1000000) :
    Calls Tryz.prog 109 #[v] w fun e w' => ∃ v, e = .returned v ∧ Nt w' v (val xs) ∧ Fs w.heap.size v ∧ Below w.heap.size w w' := by
  obtain ⟨A, c, rfl, hs, hl, hc, hA⟩ := hs
  obtain ⟨i0, hi, hz0, hz1, hz2⟩ := info_parts Tryz.infoInt
  unfold maxLen at hc
  go_enter Tryz.func109, Tryz.ntmps109
  go_wp2
  go_loop [3] (fun s => ∃ n : Nat, keepL xs n ∧ s = .int .i64 n) (fun s => (intOf s).toNat)
  case atStart => exact ⟨xs.length, keepL_start xs, rfl⟩
  case round =>
    obtain ⟨n, hn, rfl⟩ := hrel
    have hn1 := hn.1
    by_cases h0 : 0 < n
    · obtain ⟨ad, rfl, hb, hcell⟩ := hs (n - 1) (by omega)
      by_cases hz : nth xs (n - 1) = 0
      · have hk := keepL_step hn hz
        rw [hz] at hcell
        have Hz := hid hz; clear hz
        go_wp2
        go_round
        case rel => exact ⟨n - 1, hk, by go_num⟩
        case measure => simp [intOf]; omega
      · have hk := trimL_take0 hn (.inr hz)
        have Hk := hid hk; clear hk
        have hsl := (hs.take n)
        have hcl := hsl.cells
        have hlen : (vals .i64 (xs.take n)).length = n * 1 := by rw [vals_length, List.length_take]; omega
        have hal := (Below.refl w.heap.size w).alloc (Nat.le_refl _) (.cells #[] 3)
        have hcl' : ∀ j u, (vals .i64 (xs.take n))[j]? = some u → (w.alloc (.cells #[] 3)).cell? (ad.add j) = some u := fun j u h => by
          rw [hal.cell (p := ad.add j) (by rw [block_of_add]; exact hb)]; exact hcl j u h
        have hmade := World.ownsRow_made (base := w.heap.size) (e := 3) (size := 1) w #[] 0 (Nat.le_refl _) (Nat.zero_le _) rfl
        clear hcl
        go_wp2_with (at_builtin; (refine wpList_append_own _ rfl (.tmp 18) (.tmp 21) 80 rfl w.heap.size 3 i0 (.int .i64 0) 1 8 Tryz.underlying80 hi hz0 hz1 hz2 rfl (by decide) (.slice (some ⟨w.heap.size, 0, none⟩) 0 0) 0 [] rfl hmade ad n c (vals .i64 (xs.take n)) rfl hlen hcl' (vals_one _ _) (by unfold maxLen; omega) (by omega) (by simp) ?_))
        intro v' w1 hown1 hgrow1 _
        have hb1 := ((Below.refl w.heap.size w).alloc (Nat.le_refl _) (.cells #[] 3)).grown hgrow1 (by simp) (fun k hk => by simp [Value.ownBlock] at hk; omega)
        have hL := hid (Ls.of_own (o := xs.take n) (by simpa using hown1))
        have hF := Fs.of_own hown1
        clear hown1 hgrow1 hmade hcl' hlen hal
        go_wp2
        go_ret
        exact ⟨v', rfl, by unfold Nt; rw [← trimL_dig hx, Hk.out]; exact hL.out, hF, hb1⟩
    · obtain rfl : n = 0 := by omega
      have hk := trimL_take0 hn (.inl rfl)
      have Hk := hid hk; clear hk
      have hmade := World.ownsRow_made (base := w.heap.size) (e := 3) (size := 1) w #[] 0 (Nat.le_refl _) (Nat.zero_le _) rfl
      rcases A with _ | ad
      · obtain rfl := hA rfl
        have hb1 := ((Below.refl w.heap.size w).alloc (Nat.le_refl _) (.cells #[] 3))
        have hL := hid (Ls.of_own (o := []) hmade)
        have hF := Fs.of_own hmade
        go_wp2_with (at_builtin; (refine wpList_append_own_none rfl (.tmp 18) (.tmp 21) 80 rfl w.heap.size 3 i0 1 Tryz.underlying80 hi (.slice (some ⟨w.heap.size, 0, none⟩) 0 0) 0 [] rfl hmade rfl ?_))
        go_wp2
        go_ret
        exact ⟨_, rfl, by unfold Nt; rw [← trimL_dig hx, Hk.out]; exact hL.out, hF, hb1⟩
      · go_wp2_with (at_builtin; (refine wpList_append_own _ rfl (.tmp 18) (.tmp 21) 80 rfl w.heap.size 3 i0 (.int .i64 0) 1 8 Tryz.underlying80 hi hz0 hz1 hz2 rfl (by decide) (.slice (some ⟨w.heap.size, 0, none⟩) 0 0) 0 [] rfl hmade ad 0 c [] rfl rfl (fun j u h => by simp at h) (fun u h => by simp at h) (by unfold maxLen; omega) (by omega) (by simp) ?_))
        intro v' w1 hown1 hgrow1 _
        have hb1 := ((Below.refl w.heap.size w).alloc (Nat.le_refl _) (.cells #[] 3)).grown hgrow1 (by simp) (fun k hk => by simp [Value.ownBlock] at hk; omega)
        have hL := hid (Ls.of_own (o := []) hown1)
        have hF := Fs.of_own hown1
        clear hown1 hgrow1 hmade
        go_wp2
        go_ret
        exact ⟨v', rfl, by unfold Nt; rw [← trimL_dig hx, Hk.out]; exact hL.out, hF, hb1⟩

end Go.Proofs.YtffipjofefemiaaGreatDoor

namespace Go.Proofs.YtffipjofefemiaaGreatDoor
open Go.RowKit Kb

set_option maxRecDepth 100000 in
set_option maxHeartbeats 2000000 in
theorem rread (A : Option Addr) (n c : Nat) (xs : List Nat) (w : World) (hs : Sl w .u16 A xs) (hx : Lim xs) (hn : xs.length = n) (hm : n ≤ 100000) :
    Calls Tryz.prog 63 #[.slice A n c] w fun e w' => ∃ v, e = .returned v ∧ Nt w' v (val xs) ∧ Below w.heap.size w w' := by
  obtain ⟨i0, hi, hz0, hz1, hz2⟩ := info_parts Tryz.infoInt
  go_enter Tryz.func63, Tryz.ntmps63
  go_wp2
  go_loopw [3, 4] (fun v iv wr => ∃ (k : Nat) (vv : Value), k ≤ n ∧ iv = .int .i64 k ∧ vv = v ∧ wr.ownsRow w.heap.size 3 1 vv k (vals .i64 (xs.take k)) ∧ Below w.heap.size w wr) (fun _ iv _ => n - (intOf iv).toNat)
  case atStart => exact ⟨0, _, Nat.zero_le _, rfl, rfl, World.ownsRow_nil _ _ _ _, Below.refl _ _⟩
  case round =>
    obtain ⟨k, v, hk, rfl, hvv, hown, hbel⟩ := hrel
    subst hvv
    by_cases hlt : k < n
    · obtain ⟨ad, rfl, hb, hcell⟩ := (hs.below hbel) k (by omega)
      obtain ⟨x, hx'⟩ : ∃ x, x = nth xs k := ⟨_, rfl⟩
      have hx1 : x < 65536 := by rw [hx']; exact lim_nth hx k
      rw [← hx'] at hcell
      have hwr : IntKind.i64.wrap (x : Int) = (x : Int) := by rw [IntKind.wrap_i64]; omega
      have htk := hid (show xs.take (k + 1) = xs.take k ++ [x] by rw [hx', nth_eq (by omega), List.take_succ_eq_append_getElem (by omega)])
      have hsz := hbel.size
      clear hx'
      go_wp2_with (at_builtin; (refine wpList_append_own _ rfl (.tmp 11) (.tmp 17) 80 rfl w.heap.size 3 i0 (.int .i64 0) 1 8 Tryz.underlying80 hi hz0 hz1 hz2 rfl (by decide) v k (vals .i64 (xs.take k)) rfl (hown.alloc _) ⟨wr.heap.size, 0, none⟩ 1 1 [.int .i64 (x : Int)] rfl rfl (cell_one_new _ _ _) (one_cell _ rfl) (by unfold maxLen; omega) (by omega) (by simp; omega) ?_))
      intro v' w1 hown1 hgrow1 _
      have hl1 := hown.lt
      have hb1 := (hbel.alloc hsz (.cells #[.int .i64 (x : Int)] 3)).grown hgrow1 (by simp; omega) (fun k hk => (hl1 k hk).1)
      rw [vals_snoc .i64 (xs.take k) x _ rfl, ← htk.out] at hown1
      have Hown := hid hown1
      clear hown1 hown hgrow1 hl1 hwr
      go_wp2
      go_roundw
      case rel => exact ⟨k + 1, _, hlt, by go_num, rfl, Hown.out, hb1⟩
      case measure => simp [intOf]; omega
    · obtain rfl : k = n := by omega
      rw [List.take_of_length_le (by omega)] at hown
      have hL := Ls.of_own hown
      have Hown := hid hown
      clear hown
      go_wp2_with fail
      refine (rtrim v xs wr hL hx (by omega)).mono ?_
      rintro e w2 ⟨u, rfl, hu, -, hb2⟩
      have hB := bthen hbel hb2 (Nat.le_refl _)
      clear hL hb2
      go_wp2
      go_ret
      exact ⟨u, rfl, hu, hB⟩

set_option maxRecDepth 100000 in
theorem rdigit (v : Value) (xs : List Nat) (i : Nat) (w : World) (hs : Ls w v xs) (_hi : i ≤ 1000000) :
    Calls Tryz.prog 132 #[v, .int .i64 i] w fun e w' => e = .returned (.int .i64 (nth xs i : Nat)) ∧ w = w' := by
  obtain ⟨A, c, rfl, hs, hl, hc, hA⟩ := hs
  by_cases hlt : i < xs.length
  · obtain ⟨ad, rfl, hb, hcell⟩ := hs i hlt
    go_enter Tryz.func132, Tryz.ntmps132
    go_wp2
    go_ret
    exact ⟨rfl, rfl⟩
  · have h0 : nth xs i = 0 := by unfold nth; simp [List.getD_eq_getElem?_getD, List.getElem?_eq_none (show xs.length ≤ i by omega)]
    have H0 := hid h0; clear h0
    go_enter Tryz.func132, Tryz.ntmps132
    go_wp2
    go_ret
    exact ⟨ret_int (by rw [H0.out]; rfl), rfl⟩

end Go.Proofs.YtffipjofefemiaaGreatDoor

namespace Go.Proofs.YtffipjofefemiaaGreatDoor
open Go.RowKit Kb

/-- The number r has the sign of a - b. -/
def Sg (r : Int) (a b : Nat) : Prop := (a < b → r < 0) ∧ (a = b → r = 0) ∧ (b < a → 0 < r)
theorem sg_eq {a b : Nat} (h : a = b) : Sg 0 a b := ⟨fun h' => by omega, fun _ => rfl, fun h' => by omega⟩
theorem sg_lt {a b : Nat} {r : Int} (h : a < b) (hr : r < 0) : Sg r a b := ⟨fun _ => hr, fun h' => by omega, fun h' => by omega⟩
theorem sg_gt {a b : Nat} {r : Int} (h : b < a) (hr : 0 < r) : Sg r a b := ⟨fun h' => by omega, fun h' => by omega, fun _ => hr⟩

set_option maxRecDepth 100000 in
set_option maxHeartbeats 2000000 in
theorem rcompare (v u : Value) (a b : Nat) (w : World) (hv : Nt w v a) (hu : Nt w u b) (hla : (dig a).length ≤ 1000000) (hlb : (dig b).length ≤ 1000000) :
    Calls Tryz.prog 110 #[v, u] w fun e w' => ∃ r : Int, e = .returned (.int .i64 r) ∧ Sg r a b ∧ Below w.heap.size w w' := by
  obtain ⟨A, c, rfl, hs, hl, hc, hA⟩ := hv
  obtain ⟨B, d, rfl, hs2, hl2, hc2, hA2⟩ := hu
  clear hA hA2
  by_cases hne : (dig a).length = (dig b).length
  · have hne' : (((dig a).length : Int) != ((dig b).length : Int)) = false := by simp [hne]
    have Hne := hid hne; clear hne
    go_enter Tryz.func110, Tryz.ntmps110
    go_wp2
    go_loopw [5] (fun i wr => ∃ k : Nat, k ≤ (dig a).length ∧ i = .int .i64 ((k : Int) - 1) ∧ (dig a).drop k = (dig b).drop k ∧ Qt w wr) (fun i _ => (intOf i + 1).toNat)
    case atStart =>
      refine ⟨(dig a).length, Nat.le_refl _, by go_num, ?_, Qt.refl _⟩
      rw [List.drop_length, Hne.out, List.drop_length]
    case round =>
      obtain ⟨k, hk, rfl, hdr, hq⟩ := hrel
      have Hdr := hid hdr; clear hdr
      by_cases h0 : 0 < k
      · obtain ⟨ad, rfl, hb1, hcell⟩ := (hs.qt hq) (k - 1) (by omega)
        obtain ⟨bd, rfl, hb2, hcell2⟩ := (hs2.qt hq) (k - 1) (by have := Hne.out; omega)
        have hkb : k ≤ (dig b).length := by have := Hne.out; omega
        by_cases he : nth (dig a) (k - 1) = nth (dig b) (k - 1)
        · have he' : (((nth (dig a) (k - 1) : Nat) : Int) != ((nth (dig b) (k - 1) : Nat) : Int)) = false := by simp [he]
          have He := hid he; clear he
          go_wp2
          go_quiet (fail)
          go_wp2
          go_roundw
          case rel => exact ⟨k - 1, by omega, by go_num, cmp_round h0 hk Hne.out Hdr.out He.out, hq.drewN _⟩
          case measure => simp [intOf]; omega
        · have he' : (((nth (dig a) (k - 1) : Nat) : Int) != ((nth (dig b) (k - 1) : Nat) : Int)) = true := by simp; omega
          have l1 := lim_nth (lim_dig a) (k - 1)
          have l2 := lim_nth (lim_dig b) (k - 1)
          obtain ⟨x, hx⟩ : ∃ x, x = nth (dig a) (k - 1) := ⟨_, rfl⟩
          obtain ⟨y, hy⟩ : ∃ y, y = nth (dig b) (k - 1) := ⟨_, rfl⟩
          have Hs := hid (show Sg ((x : Int) - (y : Int)) a b from by
            rcases Nat.lt_or_gt_of_ne he with hlt | hgt
            · exact sg_lt (cmp_less h0 hk Hne.out Hdr.out hlt) (by omega)
            · exact sg_gt (cmp_less h0 (by have := Hne.out; omega) Hne.out.symm Hdr.out.symm hgt) (by omega))
          rw [← hx] at hcell l1 he'
          rw [← hy] at hcell2 l2 he'
          clear he hx hy
          go_wp2
          go_quiet (fail)
          have hq1 := hq.drewN nq
          have hcell1 : (wr.drewN nq).cell? (ad.add (k - 1)) = _ := hcell
          have hcell3 : (wr.drewN nq).cell? (bd.add (k - 1)) = _ := hcell2
          clear hcell hcell2 hq
          generalize wr.drewN nq = w1 at *
          have hwr : IntKind.i64.wrap ((x : Int) - (y : Int)) = (x : Int) - (y : Int) := by rw [IntKind.wrap_i64]; omega
          go_wp2
          go_quiet (fail)
          go_wp2
          go_ret
          exact ⟨_, rfl, Hs.out, (hq1.drewN _).below _⟩
      · have Hs := hid (cmp_same h0 Hdr.out)
        go_wp2
        go_ret
        exact ⟨0, rfl, sg_eq Hs.out, hq.below _⟩
  · have hne' : (((dig a).length : Int) != ((dig b).length : Int)) = true := by simp; omega
    have Hs := hid (show Sg (((dig a).length : Int) - ((dig b).length : Int)) a b from by
      rcases Nat.lt_or_gt_of_ne hne with hlt | hgt
      · exact sg_lt (lt_of_length_lt hlt) (by omega)
      · exact sg_gt (lt_of_length_lt hgt) (by omega))
    clear hne
    go_enter Tryz.func110, Tryz.ntmps110
    go_wp2
    go_ret
    exact ⟨_, rfl, Hs.out, Below.refl _ _⟩

end Go.Proofs.YtffipjofefemiaaGreatDoor

namespace Go.Proofs.YtffipjofefemiaaGreatDoor
open Go.RowKit Kb

theorem addRel_stop {a b k cr N : Nat} {o : List Nat} (h : AddRel a b k o cr) (hc : 0 < cr) (ha : (dig a).length ≤ N) (hb : (dig b).length ≤ N) : k ≤ N := by
  obtain ⟨h1, h2, h3, h4⟩ := h
  rcases Nat.lt_or_ge N k with hk | hk
  · rw [val_take_ge (by omega), val_take_ge (by omega), val_dig, val_dig] at h4
    have ea := lt_of_dig_length ha
    have eb := lt_of_dig_length hb
    have e1 : 65536 ^ (N + 1) ≤ 65536 ^ k := Nat.pow_le_pow_right (by decide) hk
    rw [Nat.pow_succ] at e1
    have e2 : 65536 ^ k ≤ 65536 ^ k * cr := Nat.le_mul_of_pos_right _ hc
    omega
  · exact hk
theorem addRel_end {a b k : Nat} {o : List Nat} (h : AddRel a b k o 0) (ha : (dig a).length ≤ k) (hb : (dig b).length ≤ k) : val o = a + b := by
  obtain ⟨h1, h2, h3, h4⟩ := h
  rw [val_take_ge ha, val_take_ge hb, val_dig, val_dig] at h4
  omega
theorem addRel_next {a b k cr s : Nat} {o : List Nat} (h : AddRel a b k o cr) (hs : s = nth (dig a) k + nth (dig b) k + cr) : AddRel a b (k + 1) (o ++ [s % 65536]) (s / 65536) := by
  have := h.next
  rwa [show cr + nth (dig a) k + nth (dig b) k = s by omega] at this

set_option maxRecDepth 100000 in
set_option maxHeartbeats 4000000 in
theorem rplus (v u : Value) (a b : Nat) (w : World) (hv : Nt w v a) (hu : Nt w u b) (hla : (dig a).length ≤ 400000) (hlb : (dig b).length ≤ 400000) :
    Calls Tryz.prog 113 #[v, u] w fun e w' => ∃ z, e = .returned z ∧ Nt w' z (a + b) ∧ Below w.heap.size w w' := by
  obtain ⟨i0, hi, hz0, hz1, hz2⟩ := info_parts Tryz.infoInt
  obtain ⟨A, c, rfl, -⟩ := id hv
  obtain ⟨B, d, rfl, -⟩ := id hu
  go_enter Tryz.func113, Tryz.ntmps113
  go_wp2
  go_loopw [5, 6, 7] (fun v cv iv wr => ∃ (k cr : Nat) (o : List Nat) (vv : Value), vv = v ∧ iv = .int .i64 k ∧ cv = .int .i64 cr ∧ AddRel a b k o cr ∧ k ≤ (dig a).length + (dig b).length + 1 ∧ wr.ownsRow w.heap.size 3 1 vv k (vals .i64 o) ∧ Below w.heap.size w wr) (fun _ _ iv _ => (dig a).length + (dig b).length + 2 - (intOf iv).toNat)
  case atStart => exact ⟨0, 0, [], _, rfl, rfl, rfl, AddRel.start a b, by omega, World.ownsRow_nil _ _ _ _, Below.refl _ _⟩
  case round =>
    obtain ⟨k, cr, o, v, hvv, rfl, rfl, hrel, hkN, hown, hbel⟩ := hrel
    subst hvv
    have Hrel := hid hrel; clear hrel
    have hcr : cr ≤ 1 := Hrel.out.2.2.1
    by_cases hC : k < (dig a).length ∨ k < (dig b).length ∨ 0 < cr
    · have hk1 : k + 1 ≤ (dig a).length + (dig b).length + 1 := by
        rcases hC with h | h | h
        · omega
        · omega
        · have := addRel_stop Hrel.out h (N := (dig a).length + (dig b).length) (by omega) (by omega); omega
      have hC' : (k < (dig a).length) ∨ (¬ k < (dig a).length ∧ k < (dig b).length) ∨ (¬ k < (dig a).length ∧ ¬ k < (dig b).length ∧ 0 < cr) := by omega
      obtain ⟨x, hx⟩ : ∃ x, x = nth (dig a) k := ⟨_, rfl⟩
      obtain ⟨y, hy⟩ : ∃ y, y = nth (dig b) k := ⟨_, rfl⟩
      have lx : x < 65536 := by rw [hx]; exact lim_nth (lim_dig a) k
      have ly : y < 65536 := by rw [hy]; exact lim_nth (lim_dig b) k
      obtain ⟨s, hs⟩ : ∃ s, s = x + y + cr := ⟨_, rfl⟩
      have Hn := hid (addRel_next Hrel.out (s := s) (by rw [hs, hx, hy]))
      have d1 := rdigit _ _ k wr (hv.below hbel) (by omega)
      have d2 := rdigit _ _ k wr (hu.below hbel) (by omega)
      rw [← hx] at d1
      rw [← hy] at d2
      have hsr := hid (show ((x : Int) + (y : Int) + (cr : Int)) % 65536 = ((s % 65536 : Nat) : Int) by omega)
      have hsd := hid (show ((x : Int) + (y : Int) + (cr : Int)) / 65536 = ((s / 65536 : Nat) : Int) by omega)
      have ls : s ≤ 131071 := by omega
      have D1 := hid d1
      have D2 := hid d2
      have Hs := hid hs
      have hsz := hbel.size
      have hol : o.length = k := Hrel.out.1
      clear hC hx hy hs d1 d2
      rcases hC' with h | ⟨h, h'⟩ | ⟨h, h', h''⟩
      all_goals
        go_wp2_with fail
        refine D1.out.mono ?_
        rintro e w1 ⟨rfl, rfl⟩
        go_wp2_with fail
        refine D2.out.mono ?_
        rintro e w1 ⟨rfl, rfl⟩
        go_wp2_with (at_builtin; (refine wpList_append_own _ rfl (.tmp 34) (.tmp 37) 80 rfl w.heap.size 3 i0 (.int .i64 0) 1 8 Tryz.underlying80 hi hz0 hz1 hz2 rfl (by decide) v k (vals .i64 o) rfl (hown.alloc _) ⟨wr.heap.size, 0, none⟩ 1 1 [.int .i64 (((x : Int) + (y : Int) + (cr : Int)) % 65536)] rfl rfl (cell_one_new _ _ _) (one_cell _ rfl) (by unfold maxLen; omega) (by omega) (by simp; omega) ?_))
        intro v' w1 hown1 hgrow1 _
        have hl1 := hown.lt
        have hb1 := (hbel.alloc hsz (.cells #[.int .i64 (((x : Int) + (y : Int) + (cr : Int)) % 65536)] 3)).grown hgrow1 (by simp; omega) (fun k hk => (hl1 k hk).1)
        rw [vals_snoc .i64 o (s % 65536) _ hsr.out] at hown1
        have Hown := hid hown1
        clear hown1 hown hgrow1 hl1
        go_wp2
        go_roundw
        case rel => exact ⟨k + 1, s / 65536, _, _, rfl, by go_num, val_int hsd.out, Hn.out, hk1, Hown.out, hb1⟩
        case measure => simp [intOf]; omega
    · obtain rfl : cr = 0 := by omega
      have hka : ¬ k < (dig a).length := by omega
      have hkb : ¬ k < (dig b).length := by omega
      have hval := addRel_end Hrel.out (by omega) (by omega)
      have hol : o.length = k := Hrel.out.1
      have hL := Ls.of_own hown
      have hT := rtrim v o wr hL Hrel.out.2.1 (by omega)
      rw [hval] at hT
      have HT := hid hT
      clear hC hval hol hL hT hown
      go_wp2_with fail
      refine HT.out.mono ?_
      rintro e w2 ⟨z, rfl, hz, -, hb2⟩
      have hB := bthen hbel hb2 (Nat.le_refl _)
      clear hb2 hbel
      go_wp2
      go_ret
      exact ⟨z, rfl, hz, hB⟩

end Go.Proofs.YtffipjofefemiaaGreatDoor

namespace Go.Proofs.YtffipjofefemiaaGreatDoor
open Go.RowKit Kb

set_option maxRecDepth 100000 in
set_option maxHeartbeats 4000000 in
theorem rminus (v u : Value) (a b : Nat) (w : World) (hv : Nt w v a) (hu : Nt w u b) (hab : b ≤ a) (hla : (dig a).length ≤ 400000) (_hlb : (dig b).length ≤ 400000) :
    Calls Tryz.prog 111 #[v, u] w fun e w' => ∃ z, e = .returned z ∧ Nt w' z (a - b) ∧ Fs w.heap.size z ∧ Below w.heap.size w w' := by
  obtain ⟨i0, hi, hz0, hz1, hz2⟩ := info_parts Tryz.infoInt
  obtain ⟨A, c, rfl, hs, hlc, -⟩ := id hv
  obtain ⟨B, d, rfl, -⟩ := id hu
  have Hab := hid hab; clear hab
  go_enter Tryz.func111, Tryz.ntmps111
  go_wp2
  go_loopw [5, 6, 7] (fun v cv iv wr => ∃ (k br : Nat) (o : List Nat) (vv : Value), vv = v ∧ iv = .int .i64 k ∧ cv = .int .i64 br ∧ SubRel a b k o br ∧ k ≤ (dig a).length ∧ wr.ownsRow w.heap.size 3 1 vv k (vals .i64 o) ∧ Below w.heap.size w wr) (fun _ _ iv _ => (dig a).length - (intOf iv).toNat)
  case atStart => exact ⟨0, 0, [], _, rfl, rfl, rfl, SubRel.start a b, by omega, World.ownsRow_nil _ _ _ _, Below.refl _ _⟩
  case round =>
    obtain ⟨k, br, o, v, hvv, rfl, rfl, hrel, hkN, hown, hbel⟩ := hrel
    subst hvv
    have Hrel := hid hrel; clear hrel
    have hbr : br ≤ 1 := Hrel.out.2.2.1
    by_cases hlt : k < (dig a).length
    · obtain ⟨x, hx⟩ : ∃ x, x = nth (dig a) k := ⟨_, rfl⟩
      obtain ⟨y, hy⟩ : ∃ y, y = nth (dig b) k := ⟨_, rfl⟩
      have lx : x < 65536 := by rw [hx]; exact lim_nth (lim_dig a) k
      have ly : y < 65536 := by rw [hy]; exact lim_nth (lim_dig b) k
      obtain ⟨ad, rfl, hb, hcell⟩ := (hs.below hbel) k hlt
      rw [← hx] at hcell
      have D2 := hid (show ∀ n, Calls Tryz.prog 132 #[.slice B (dig b).length d, .int .i64 k] (wr.drewN n) fun e w' => e = .returned (.int .i64 y) ∧ wr.drewN n = w' from fun n => by
        have := rdigit _ _ k (wr.drewN n) (hu.below (hbel.drewN' n)) (by omega)
        rw [← hy] at this; exact this)
      have hsz := hbel.size
      have hol : o.length = k := Hrel.out.1
      have key : ∃ (s : Nat) (br' : Nat), s < 65536 ∧ SubRel a b (k + 1) (o ++ [s]) br' ∧ ((br' = 0 ∧ ¬ (x : Int) - (y : Int) - (br : Int) < 0 ∧ (x : Int) - (y : Int) - (br : Int) = (s : Int)) ∨ (br' = 1 ∧ (x : Int) - (y : Int) - (br : Int) < 0 ∧ (x : Int) - (y : Int) - (br : Int) + 65536 = (s : Int))) := by
        by_cases h : x < y + br
        · refine ⟨x + 65536 - y - br, 1, by omega, SubRel.next Hrel.out (by omega) (by omega) (by rw [← hx, ← hy]; omega), .inr ⟨rfl, by omega, by omega⟩⟩
        · refine ⟨x - y - br, 0, by omega, SubRel.next Hrel.out (by omega) (by omega) (by rw [← hx, ← hy]; omega), .inl ⟨rfl, by omega, by omega⟩⟩
      obtain ⟨s, br', ls, hn, hcase⟩ := key
      have Hn := hid hn
      have hgr : wr.grownBy (wr) none := World.grownBy.refl _ _
      clear hx hy hn hgr
      rcases hcase with ⟨rfl, h1, h2⟩ | ⟨rfl, h1, h2⟩
      · have H2 := hid h2
        clear h2
        go_wp2
        go_quiet ((go_at_call 132; exact quiet_left (D2.out _)))
        have hownq : (wr.drewN nq).ownsRow w.heap.size 3 1 v k (vals .i64 o) := hown
        have hbelq := hbel.drewN' nq
        have hszq : w.heap.size ≤ (wr.drewN nq).heap.size := hsz
        clear hcell hb hown hbel hsz D2
        generalize wr.drewN nq = wq at *
        go_wp2_with (at_builtin; (refine wpList_append_own _ rfl (.tmp 29) (.tmp 31) 80 rfl w.heap.size 3 i0 (.int .i64 0) 1 8 Tryz.underlying80 hi hz0 hz1 hz2 rfl (by decide) v k (vals .i64 o) rfl (hownq.alloc _) ⟨wq.heap.size, 0, none⟩ 1 1 [.int .i64 ((x : Int) - (y : Int) - (br : Int))] rfl rfl (cell_one_new _ _ _) (one_cell _ rfl) (by unfold maxLen; omega) (by omega) (by simp; omega) ?_))
        intro v' w1 hown1 hgrow1 _
        have hl1 := hownq.lt
        have hb1 := (hbelq.alloc hszq (.cells #[.int .i64 ((x : Int) - (y : Int) - (br : Int))] 3)).grown hgrow1 (by simp; omega) (fun k hk => (hl1 k hk).1)
        rw [vals_snoc .i64 o s _ H2.out] at hown1
        have Hown := hid hown1
        clear hown1 hownq hgrow1 hl1
        go_wp2
        go_roundw
        case rel => exact ⟨k + 1, 0, _, _, rfl, by go_num, rfl, Hn.out, hlt, Hown.out, hb1⟩
        case measure => simp [intOf]; omega
      · have H2 := hid h2
        clear h2
        go_wp2
        go_quiet ((go_at_call 132; exact quiet_left (D2.out _)))
        have hownq : (wr.drewN nq).ownsRow w.heap.size 3 1 v k (vals .i64 o) := hown
        have hbelq := hbel.drewN' nq
        have hszq : w.heap.size ≤ (wr.drewN nq).heap.size := hsz
        clear hcell hb hown hbel hsz D2
        generalize wr.drewN nq = wq at *
        go_wp2_with (at_builtin; (refine wpList_append_own _ rfl (.tmp 29) (.tmp 31) 80 rfl w.heap.size 3 i0 (.int .i64 0) 1 8 Tryz.underlying80 hi hz0 hz1 hz2 rfl (by decide) v k (vals .i64 o) rfl (hownq.alloc _) ⟨wq.heap.size, 0, none⟩ 1 1 [.int .i64 ((x : Int) - (y : Int) - (br : Int) + 65536)] rfl rfl (cell_one_new _ _ _) (one_cell _ rfl) (by unfold maxLen; omega) (by omega) (by simp; omega) ?_))
        intro v' w1 hown1 hgrow1 _
        have hl1 := hownq.lt
        have hb1 := (hbelq.alloc hszq (.cells #[.int .i64 ((x : Int) - (y : Int) - (br : Int) + 65536)] 3)).grown hgrow1 (by simp; omega) (fun k hk => (hl1 k hk).1)
        rw [vals_snoc .i64 o s _ H2.out] at hown1
        have Hown := hid hown1
        clear hown1 hownq hgrow1 hl1
        go_wp2
        go_roundw
        case rel => exact ⟨k + 1, 1, _, _, rfl, by go_num, rfl, Hn.out, hlt, Hown.out, hb1⟩
        case measure => simp [intOf]; omega
    · obtain rfl : k = (dig a).length := by omega
      have hval := SubRel.done Hrel.out (Nat.le_refl _) (dig_length_mono Hab.out) Hab.out
      have hol := Hrel.out.1
      have hL := Ls.of_own hown
      have hT := rtrim v o wr hL Hrel.out.2.1 (by omega)
      rw [hval] at hT
      have HT := hid hT
      clear hval hol hL hT hown
      go_wp2_with fail
      refine HT.out.mono ?_
      rintro e w2 ⟨z, rfl, hz, hf, hb2⟩
      replace hf := hf.mono hbel.size
      have hB := bthen hbel hb2 (Nat.le_refl _)
      clear hb2 hbel
      go_wp2
      go_ret
      exact ⟨z, rfl, hz, hf, hB⟩

end Go.Proofs.YtffipjofefemiaaGreatDoor
